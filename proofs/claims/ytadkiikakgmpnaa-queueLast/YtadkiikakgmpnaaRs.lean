/-
  Slices of ranges (three integers each) told by functions of the place. No program is named here.
-/
import Derived.Test.YtadkiikakgmpnaaApp
namespace Go.Proofs.Ytadkiikakgmpnaa
open Go.RowKit

/-- Cells at block b from off on: triples of integers. -/
structure Tr (w : World) (b off n : Nat) (L H C : Nat → Int) : Prop where
  lo : ∀ i, i < n → w.cell? ⟨b, off + i * 3, none⟩ = some (.int .i64 (L i))
  hi : ∀ i, i < n → w.cell? ⟨b, off + i * 3 + 1, none⟩ = some (.int .i64 (H i))
  cl : ∀ i, i < n → w.cell? ⟨b, off + i * 3 + 2, none⟩ = some (.int .i64 (C i))
theorem Tr.below {w w' : World} {b off n : Nat} {L H C : Nat → Int} (h : Tr w b off n L H C) (hlt : b < w.heap.size) (hb : Below w.heap.size w w') : Tr w' b off n L H C :=
  ⟨fun i hi => by rw [hb.cell (p := ⟨b, off + i * 3, none⟩) hlt]; exact h.lo i hi, fun i hi => by rw [hb.cell (p := ⟨b, off + i * 3 + 1, none⟩) hlt]; exact h.hi i hi, fun i hi => by rw [hb.cell (p := ⟨b, off + i * 3 + 2, none⟩) hlt]; exact h.cl i hi⟩

/-- A slice of ranges: nil, or it leads to cells that hold what L, H, C tell. -/
structure Rs (w : World) (a : Option Addr) (n cap : Nat) (L H C : Nat → Int) : Prop where
  le : n ≤ cap
  mx : cap ≤ maxLen
  nil : a = none → n = 0 ∧ cap = 0
  at' : 0 < n → ∃ b off, a = some ⟨b, off, none⟩ ∧ b < w.heap.size ∧ Tr w b off n L H C
theorem Rs.below {w w' : World} {a : Option Addr} {n cap : Nat} {L H C : Nat → Int} (h : Rs w a n cap L H C) (hb : Below w.heap.size w w') : Rs w' a n cap L H C :=
  ⟨h.le, h.mx, h.nil, fun hn => by
    obtain ⟨b, off, rfl, hlt, ht⟩ := h.at' hn
    exact ⟨b, off, rfl, Nat.lt_of_lt_of_le hlt hb.size, ht.below hlt hb⟩⟩

/-- The cells of n ranges. -/
def fvals (L H C : Nat → Int) (n : Nat) : List Value := (List.range n).flatMap fun i => [.int .i64 (L i), .int .i64 (H i), .int .i64 (C i)]
theorem fvals_snoc (L H C : Nat → Int) (n : Nat) : fvals L H C n ++ [.int .i64 (L n), .int .i64 (H n), .int .i64 (C n)] = fvals L H C (n + 1) := by
  unfold fvals; rw [List.range_succ, List.flatMap_append]; simp
theorem fvals_length (L H C : Nat → Int) (n : Nat) : (fvals L H C n).length = n * 3 := by
  induction n with
  | zero => rfl
  | succ n ih => rw [← fvals_snoc, List.length_append, ih]; simp; omega
theorem fvals_one (L H C : Nat → Int) (n : Nat) : ∀ u ∈ fvals L H C n, u.oneCell' = true := by
  intro u hu
  simp only [fvals, List.mem_flatMap] at hu
  obtain ⟨i, _, hi⟩ := hu
  simp at hi
  rcases hi with rfl | rfl | rfl <;> rfl
theorem fvals_congr {L H C L' H' C' : Nat → Int} {n : Nat} (h0 : ∀ i, i < n → L i = L' i) (h1 : ∀ i, i < n → H i = H' i) (h2 : ∀ i, i < n → C i = C' i) : fvals L H C n = fvals L' H' C' n := by
  induction n with
  | zero => rfl
  | succ n ih =>
    rw [← fvals_snoc, ← fvals_snoc, ih (fun i hi => h0 i (by omega)) (fun i hi => h1 i (by omega)) (fun i hi => h2 i (by omega)), h0 n (by omega), h1 n (by omega), h2 n (by omega)]
theorem fvals_get (L H C : Nat → Int) (n : Nat) : ∀ i, i < n → (fvals L H C n)[i * 3]? = some (.int .i64 (L i)) ∧ (fvals L H C n)[i * 3 + 1]? = some (.int .i64 (H i)) ∧ (fvals L H C n)[i * 3 + 2]? = some (.int .i64 (C i)) := by
  induction n with
  | zero => intro i hi; omega
  | succ n ih =>
    intro i hi
    rw [← fvals_snoc]
    have hl := fvals_length L H C n
    rcases Nat.lt_succ_iff_lt_or_eq.1 hi with h | rfl
    · rw [List.getElem?_append_left (by omega), List.getElem?_append_left (by omega), List.getElem?_append_left (by omega)]
      exact ih i h
    · rw [List.getElem?_append_right (by omega), List.getElem?_append_right (by omega), List.getElem?_append_right (by omega), hl]
      simp [Nat.add_sub_cancel_left]
/-- Which place of a row of ranges a cell is. -/
theorem fvals_inv {L H C : Nat → Int} {n j : Nat} {u : Value} (h : (fvals L H C n)[j]? = some u) : ∃ i, i < n ∧ ((j = i * 3 ∧ u = .int .i64 (L i)) ∨ (j = i * 3 + 1 ∧ u = .int .i64 (H i)) ∨ (j = i * 3 + 2 ∧ u = .int .i64 (C i))) := by
  have hj : j < n * 3 := by
    have := (List.getElem?_eq_some_iff.1 h).1
    rwa [fvals_length] at this
  obtain ⟨e0, e1, e2⟩ := fvals_get L H C n (j / 3) (by omega)
  refine ⟨j / 3, by omega, ?_⟩
  obtain h3 | h3 | h3 : j = j / 3 * 3 ∨ j = j / 3 * 3 + 1 ∨ j = j / 3 * 3 + 2 := by omega
  · rw [← h3] at e0; rw [e0] at h; exact .inl ⟨h3, (Option.some.inj h).symm⟩
  · rw [← h3] at e1; rw [e1] at h; exact .inr (.inl ⟨h3, (Option.some.inj h).symm⟩)
  · rw [← h3] at e2; rw [e2] at h; exact .inr (.inr ⟨h3, (Option.some.inj h).symm⟩)
/-- A slice of ranges as what is appended. -/
theorem Rs.src {w : World} {a : Option Addr} {n cap : Nat} {L H C : Nat → Int} (h : Rs w a n cap L H C) : Src w a n cap 3 (fvals L H C n) :=
  ⟨fvals_length L H C n, fvals_one L H C n, h.nil, fun ad ha j u hu => by
    obtain ⟨i, hi, hj⟩ := fvals_inv hu
    obtain ⟨b, off, hab, _, ht⟩ := h.at' (by omega)
    rw [ha] at hab
    cases hab
    rw [Addr.add_lit]
    rcases hj with ⟨rfl, rfl⟩ | ⟨rfl, rfl⟩ | ⟨rfl, rfl⟩
    · exact ht.lo i hi
    · exact ht.hi i hi
    · exact ht.cl i hi⟩
/-- A row of the call's own as a slice of ranges. -/
theorem Rs.ofOwn {w : World} {base : Nat} {e : TypeId} {v : Value} {n : Nat} {L H C : Nat → Int} (h : w.ownsRow base e 3 v n (fvals L H C n)) : ∃ a cap, v = .slice a n cap ∧ Rs w a n cap L H C := by
  obtain ⟨hl, h⟩ := h
  rcases h with ⟨rfl, rfl⟩ | ⟨g, cap, cur, rfl, hb, hg, hn, hm, hs, ht⟩
  · exact ⟨none, 0, rfl, by omega, Nat.zero_le _, fun _ => ⟨rfl, rfl⟩, fun h => absurd h (by omega)⟩
  · refine ⟨_, cap, rfl, hn, hm, fun h => absurd h (by simp), fun h0 => ⟨g, 0, rfl, (Array.getElem?_eq_some_iff.1 hg).1, ?_⟩⟩
    have key : ∀ j x, (fvals L H C n)[j]? = some x → w.cell? ⟨g, 0 + j, none⟩ = some x := fun j x hj => by
      have hj' : j < n * 3 := by
        have := (List.getElem?_eq_some_iff.1 hj).1
        rwa [fvals_length] at this
      rw [← ht, List.getElem?_take_of_lt hj'] at hj
      have e2 : cur[j]? = some x := by simpa using hj
      simp [World.cell?, hg, e2]
    exact ⟨fun i hi => key _ _ (fvals_get L H C n i hi).1, fun i hi => key _ _ (fvals_get L H C n i hi).2.1, fun i hi => key _ _ (fvals_get L H C n i hi).2.2⟩
end Go.Proofs.Ytadkiikakgmpnaa
