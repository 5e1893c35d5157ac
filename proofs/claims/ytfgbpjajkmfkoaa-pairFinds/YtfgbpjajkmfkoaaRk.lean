/-
  A block of two cells (a struct's), as it lies and as it is written; rows of a file of ranks in memory: a text and a number each. No program is named here.
-/
import Derived.Test.YtfgbpjajkmfkoaaTs
import Derived.RangeFuncBox
namespace Go.Proofs.Ytfgbpjajkmfkoaa
open Go.RowKit

def Bx2 (W : World) (B : Nat) (t : TypeId) (x y : Value) : Prop := W.heap[B]? = some (.cells #[x, y] t (0, 0))
section
variable {W : World} {B : Nat} {t : TypeId} {x y : Value}
theorem Bx2.lt (h : Bx2 W B t x y) : B < W.heap.size := (Array.getElem?_eq_some_iff.1 h).1
theorem Bx2.cell0 (h : Bx2 W B t x y) : W.cell? ⟨B, 0, none⟩ = some x := by simp [World.cell?, show W.heap[B]? = _ from h]
theorem Bx2.cell1 (h : Bx2 W B t x y) : W.cell? ⟨B, 1, none⟩ = some y := by simp [World.cell?, show W.heap[B]? = _ from h]
theorem Bx2.fr0 (h : Bx2 W B t x y) : W.frozen? ⟨B, 0, none⟩ = false := by simp [World.frozen?, show W.heap[B]? = _ from h]
theorem Bx2.fr1 (h : Bx2 W B t x y) : W.frozen? ⟨B, 1, none⟩ = false := by simp [World.frozen?, show W.heap[B]? = _ from h]
theorem Bx2.new (W : World) (t : TypeId) (x y : Value) : Bx2 (W.alloc (.cells #[x, y] t)) W.heap.size t x y := World.alloc_heap_new W _
theorem Bx2.below {W' : World} {n : Nat} (h : Bx2 W B t x y) (hb : Below n W W') (hn : B < n) : Bx2 W' B t x y := (hb.block B hn).trans h
theorem Bx2.alloc (h : Bx2 W B t x y) (o : Obj) : Bx2 (W.alloc o) B t x y := (Below.heap_alloc _ _ _ h.lt).trans h
theorem Bx2.set0 (h : Bx2 W B t x y) (x' : Value) : Bx2 (W.setCell ⟨B, 0, none⟩ x') B t x' y := by
  obtain ⟨hlt, hk⟩ := Array.getElem?_eq_some_iff.1 h
  show (W.heap.modify B _)[B]? = _
  rw [Array.getElem?_eq_getElem (by rw [Array.size_modify]; exact hlt), Array.getElem_modify_self, hk]
  rfl
theorem Bx2.set1 (h : Bx2 W B t x y) (y' : Value) : Bx2 (W.setCell ⟨B, 1, none⟩ y') B t x y' := by
  obtain ⟨hlt, hk⟩ := Array.getElem?_eq_some_iff.1 h
  show (W.heap.modify B _)[B]? = _
  rw [Array.getElem?_eq_getElem (by rw [Array.size_modify]; exact hlt), Array.getElem_modify_self, hk]
  rfl
/-- What a row of the call's own, of another kind, leaves of it. -/
theorem Bx2.kept {W' : World} {row : Option Nat} (h : Bx2 W B t x y) (hg : W.grownBy W' row) (hne : some B ≠ row) : Bx2 W' B t x y := (hg.block B h.lt hne).trans h
end
/-- Both cells of a new block written: old memory is as it was. -/
theorem below_two {w W : World} {n B : Nat} (h : Below n w W) (hB : n ≤ B) (x y : Value) : Below n w ((W.setCell ⟨B, 0, none⟩ x).setCell ⟨B, 1, none⟩ y) :=
  (h.setCell (p := ⟨B, 0, none⟩) hB x).setCell (p := ⟨B, 1, none⟩) hB y
theorem cell_alloc {W : World} {p : Addr} {v : Value} (h : W.cell? p = some v) (o : Obj) : (W.alloc o).cell? p = some v := by
  rw [((Below.refl W.heap.size W).alloc (Nat.le_refl _) o).cell (World.block_lt_of_cell? _ _ h)]
  exact h
theorem grown_setCell (W : World) (b o : Nat) (v : Value) : W.grownBy (W.setCell ⟨b, o, none⟩ v) (some b) :=
  ⟨rfl, rfl, rfl, (KeepsWalks.setCell W _ v).size, fun k _ hk => Below.heap_setCell _ _ _ k (fun e => hk (by rw [e]))⟩
/-- A row of the call's own over both writes into another block. -/
theorem own_two {W : World} {base : Nat} {e : TypeId} {size : Nat} {v : Value} {n B : Nat} {xs : List Value} (h : W.ownsRow base e size v n xs) (hB : B < base) (x y : Value) : ((W.setCell ⟨B, 0, none⟩ x).setCell ⟨B, 1, none⟩ y).ownsRow base e size v n xs :=
  have hne : v.ownBlock ≠ some B := fun e => by have := (h.lt B e).1; omega
  (h.kept (grown_setCell W B 0 x) (.inr hne)).kept (grown_setCell _ B 1 y) (.inr hne)

/-- Rows as values. -/
def rv (xs : List (ByteArray × Int)) : List Value := xs.flatMap fun x => [.string x.1, .int .i64 x.2]
theorem rv_length (xs : List (ByteArray × Int)) : (rv xs).length = xs.length * 2 := by
  induction xs with
  | nil => rfl
  | cons x xs ih => simp only [rv, List.flatMap_cons, List.length_append, List.length_cons, List.length_nil] at ih ⊢; omega
theorem rv_append (xs ys : List (ByteArray × Int)) : rv xs ++ rv ys = rv (xs ++ ys) := by simp [rv]
theorem rv_snoc (xs : List (ByteArray × Int)) (t : ByteArray) (k : Int) : rv xs ++ [.string t, .int .i64 k] = rv (xs ++ [(t, k)]) := by rw [← rv_append]; rfl
theorem rv_one (xs : List (ByteArray × Int)) : ∀ u ∈ rv xs, u.oneCell' = true := by
  intro u hu
  simp only [rv, List.mem_flatMap] at hu
  obtain ⟨i, _, hi⟩ := hu
  simp at hi
  rcases hi with rfl | rfl <;> rfl
/-- The row at a place. -/
def tat (xs : List (ByteArray × Int)) (i : Nat) : ByteArray := (xs.getD i (⟨#[]⟩, 0)).1
def kat (xs : List (ByteArray × Int)) (i : Nat) : Int := (xs.getD i (⟨#[]⟩, 0)).2
theorem rv_get : ∀ (xs : List (ByteArray × Int)) (i : Nat), i < xs.length → (rv xs)[i * 2]? = some (.string (tat xs i)) ∧ (rv xs)[i * 2 + 1]? = some (.int .i64 (kat xs i))
  | [], i, h => by simp at h
  | x :: xs, 0, h => ⟨rfl, rfl⟩
  | x :: xs, i + 1, h => by
    have ih := rv_get xs i (by simpa using h)
    have e1 : (i + 1) * 2 = i * 2 + 1 + 1 := by omega
    rw [e1]
    exact ih
theorem rv_inv {xs : List (ByteArray × Int)} {j : Nat} {u : Value} (h : (rv xs)[j]? = some u) : ∃ i, i < xs.length ∧ ((j = i * 2 ∧ u = .string (tat xs i)) ∨ (j = i * 2 + 1 ∧ u = .int .i64 (kat xs i))) := by
  have hj : j < xs.length * 2 := by
    have := (List.getElem?_eq_some_iff.1 h).1
    rwa [rv_length] at this
  obtain ⟨e0, e1⟩ := rv_get xs (j / 2) (by omega)
  refine ⟨j / 2, by omega, ?_⟩
  obtain h3 | h3 : j = j / 2 * 2 ∨ j = j / 2 * 2 + 1 := by omega
  · rw [← h3] at e0; rw [e0] at h; exact .inl ⟨h3, (Option.some.inj h).symm⟩
  · rw [← h3] at e1; rw [e1] at h; exact .inr ⟨h3, (Option.some.inj h).symm⟩
theorem rat_ext {xs ys : List (ByteArray × Int)} (hl : xs.length = ys.length) (h : ∀ i, i < xs.length → tat xs i = tat ys i ∧ kat xs i = kat ys i) : xs = ys := by
  apply List.ext_getElem hl
  intro i h1 h2
  have := h i h1
  simp [tat, kat, h1, h2] at this
  exact Prod.ext this.1 this.2

/-- A slice of rows: nil, or it leads to cells that hold them. -/
structure Rw (w : World) (a : Option Addr) (n cap : Nat) (xs : List (ByteArray × Int)) : Prop where
  len : xs.length = n
  le : n ≤ cap
  mx : cap ≤ maxLen
  nil : a = none → n = 0 ∧ cap = 0
  at' : 0 < n → ∃ b off, a = some ⟨b, off, none⟩ ∧ b < w.heap.size ∧ ∀ i, i < n → w.cell? ⟨b, off + i * 2, none⟩ = some (.string (tat xs i)) ∧ w.cell? ⟨b, off + i * 2 + 1, none⟩ = some (.int .i64 (kat xs i))
theorem Rw.below {w w' : World} {a : Option Addr} {n cap : Nat} {xs : List (ByteArray × Int)} (h : Rw w a n cap xs) (hb : Below w.heap.size w w') : Rw w' a n cap xs :=
  ⟨h.len, h.le, h.mx, h.nil, fun hn => by
    obtain ⟨b, off, rfl, hlt, hc⟩ := h.at' hn
    exact ⟨b, off, rfl, Nat.lt_of_lt_of_le hlt hb.size, fun i hi => ⟨by rw [hb.cell (p := ⟨b, off + i * 2, none⟩) hlt]; exact (hc i hi).1, by rw [hb.cell (p := ⟨b, off + i * 2 + 1, none⟩) hlt]; exact (hc i hi).2⟩⟩⟩
/-- The first rows of a slice. -/
theorem Rw.first {w : World} {a : Option Addr} {n cap : Nat} {xs : List (ByteArray × Int)} (h : Rw w a n cap xs) (m : Nat) (hm : m ≤ n) : Rw w a m cap (xs.take m) :=
  ⟨by rw [List.length_take, h.len]; omega, Nat.le_trans hm h.le, h.mx, fun e => ⟨by have := (h.nil e).1; omega, (h.nil e).2⟩, fun h0 => by
    obtain ⟨b, off, e, hlt, hc⟩ := h.at' (by omega)
    refine ⟨b, off, e, hlt, fun i hi => ?_⟩
    have q := hc i (by omega)
    have e1 : (xs.take m).getD i (⟨#[]⟩, 0) = xs.getD i (⟨#[]⟩, 0) := by simp [List.getD_eq_getElem?_getD, hi]
    unfold tat kat at q ⊢
    rw [e1]
    exact q⟩
/-- No rows. -/
theorem Rw.none (w : World) (c : Nat) (a : Option Addr) (hc : c ≤ maxLen) (h : a = .none → c = 0) : Rw w a 0 c [] :=
  ⟨rfl, Nat.zero_le _, hc, fun e => ⟨rfl, h e⟩, fun h => absurd h (by omega)⟩
/-- A row of the call's own as a slice of rows. -/
theorem Rw.ofOwn {w : World} {base : Nat} {e : TypeId} {v : Value} {n : Nat} {xs : List (ByteArray × Int)} (h : w.ownsRow base e 2 v n (rv xs)) : ∃ a cap, v = .slice a n cap ∧ Rw w a n cap xs := by
  obtain ⟨hl, h⟩ := h
  rw [rv_length] at hl
  rcases h with ⟨rfl, rfl⟩ | ⟨g, cap, cur, rfl, hb, hg, hn, hm, hs, ht⟩
  · exact ⟨_, 0, rfl, by omega, by omega, Nat.zero_le _, fun _ => ⟨rfl, rfl⟩, fun h => absurd h (by omega)⟩
  · refine ⟨_, cap, rfl, by omega, hn, hm, fun h => absurd h (by simp), fun h0 => ⟨g, 0, rfl, (Array.getElem?_eq_some_iff.1 hg).1, fun i hi => ?_⟩⟩
    have key : ∀ j x, (rv xs)[j]? = some x → w.cell? ⟨g, 0 + j, .none⟩ = some x := fun j x hj => by
      have hj' : j < n * 2 := by
        have := (List.getElem?_eq_some_iff.1 hj).1
        rw [rv_length] at this
        omega
      rw [← ht, List.getElem?_take_of_lt hj'] at hj
      have e2 : cur[j]? = some x := by simpa using hj
      simp [World.cell?, hg, e2]
    have q := rv_get xs i (by omega)
    exact ⟨key _ _ q.1, key _ _ q.2⟩
theorem Rw.ofOwn' {w : World} {base : Nat} {e : TypeId} {a : Option Addr} {n cap : Nat} {xs : List (ByteArray × Int)} (h : w.ownsRow base e 2 (.slice a n cap) n (rv xs)) : Rw w a n cap xs := by
  obtain ⟨a2, c2, e2, h2⟩ := Rw.ofOwn h
  cases e2
  exact h2
/-- One row that was just laid, as a slice. -/
theorem Rw.one {w : World} (t : ByteArray) (k : Int) (ty : TypeId) (b : Nat) (hb : b = w.heap.size) : Rw (w.alloc (.cells #[.string t, .int .i64 k] ty)) (some ⟨b, 0, .none⟩) 1 1 [(t, k)] := by
  subst hb
  refine ⟨rfl, Nat.le_refl _, by decide, fun e => absurd e (by simp), fun _ => ⟨w.heap.size, 0, rfl, by simp, fun i hi => ?_⟩⟩
  obtain rfl : i = 0 := by omega
  exact ⟨by simp [tat], by simp [kat]⟩
/-- One row that was just laid, as what is appended. -/
theorem src_row {w : World} (t : ByteArray) (k : Int) (ty : TypeId) : Src (w.alloc (.cells #[.string t, .int .i64 k] ty)) (some ⟨w.heap.size, 0, none⟩) 1 1 2 [.string t, .int .i64 k] :=
  Src.new #[.string t, .int .i64 k] ty w.heap.size rfl rfl (fun u hu => by simp at hu; rcases hu with rfl | rfl <;> rfl)
end Go.Proofs.Ytfgbpjajkmfkoaa
