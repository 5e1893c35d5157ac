/-
  A block of three cells (a struct's), as it lies and as it is written; merges in memory: four numbers each; a vocabulary in memory. No program is named here.
-/
import Derived.Test.YtfgbpjajkmfkoaaMg
namespace Go.Proofs.Ytfgbpjajkmfkoaa
open Go.RowKit

def Bx3 (W : World) (B : Nat) (t : TypeId) (x y z : Value) : Prop := W.heap[B]? = some (.cells #[x, y, z] t (0, 0))
section
variable {W : World} {B : Nat} {t : TypeId} {x y z : Value}
theorem Bx3.lt (h : Bx3 W B t x y z) : B < W.heap.size := (Array.getElem?_eq_some_iff.1 h).1
theorem Bx3.cell0 (h : Bx3 W B t x y z) : W.cell? ⟨B, 0, none⟩ = some x := by simp [World.cell?, show W.heap[B]? = _ from h]
theorem Bx3.cell1 (h : Bx3 W B t x y z) : W.cell? ⟨B, 1, none⟩ = some y := by simp [World.cell?, show W.heap[B]? = _ from h]
theorem Bx3.cell2 (h : Bx3 W B t x y z) : W.cell? ⟨B, 2, none⟩ = some z := by simp [World.cell?, show W.heap[B]? = _ from h]
theorem Bx3.fr (h : Bx3 W B t x y z) (j : Nat) : W.frozen? ⟨B, j, none⟩ = false := by simp [World.frozen?, show W.heap[B]? = _ from h]
theorem Bx3.new (W : World) (t : TypeId) (x y z : Value) : Bx3 (W.alloc (.cells #[x, y, z] t)) W.heap.size t x y z := World.alloc_heap_new W _
theorem Bx3.below {W' : World} {n : Nat} (h : Bx3 W B t x y z) (hb : Below n W W') (hn : B < n) : Bx3 W' B t x y z := (hb.block B hn).trans h
theorem Bx3.alloc (h : Bx3 W B t x y z) (o : Obj) : Bx3 (W.alloc o) B t x y z := (Below.heap_alloc _ _ _ h.lt).trans h
theorem Bx3.kept {W' : World} {row : Option Nat} (h : Bx3 W B t x y z) (hg : W.grownBy W' row) (hne : some B ≠ row) : Bx3 W' B t x y z := (hg.block B h.lt hne).trans h
theorem Bx3.mut {W' : World} {S : Nat → Prop} (h : Bx3 W B t x y z) (hm : Mut S W W') (hn : ¬ S B) : Bx3 W' B t x y z := (hm.block B h.lt hn).trans h
theorem Bx3.drew (h : Bx3 W B t x y z) : Bx3 W.drew B t x y z := h
theorem Bx3.other {D j : Nat} (h : Bx3 W B t x y z) (hne : B ≠ D) (v : Value) : Bx3 (W.setCell ⟨D, j, none⟩ v) B t x y z :=
  (Below.heap_setCell _ _ _ _ (by simpa using hne)).trans h
theorem Bx3.set0 (h : Bx3 W B t x y z) (v : Value) : Bx3 (W.setCell ⟨B, 0, none⟩ v) B t v y z := by
  obtain ⟨hlt, hk⟩ := Array.getElem?_eq_some_iff.1 h
  show (W.heap.modify B _)[B]? = _
  rw [Array.getElem?_eq_getElem (by rw [Array.size_modify]; exact hlt), Array.getElem_modify_self, hk]
  rfl
theorem Bx3.set1 (h : Bx3 W B t x y z) (v : Value) : Bx3 (W.setCell ⟨B, 1, none⟩ v) B t x v z := by
  obtain ⟨hlt, hk⟩ := Array.getElem?_eq_some_iff.1 h
  show (W.heap.modify B _)[B]? = _
  rw [Array.getElem?_eq_getElem (by rw [Array.size_modify]; exact hlt), Array.getElem_modify_self, hk]
  rfl
theorem Bx3.set2 (h : Bx3 W B t x y z) (v : Value) : Bx3 (W.setCell ⟨B, 2, none⟩ v) B t x y v := by
  obtain ⟨hlt, hk⟩ := Array.getElem?_eq_some_iff.1 h
  show (W.heap.modify B _)[B]? = _
  rw [Array.getElem?_eq_getElem (by rw [Array.size_modify]; exact hlt), Array.getElem_modify_self, hk]
  rfl
end
/-- All three cells of a block written. -/
def three (W : World) (R : Nat) (x y z : Value) : World := ((W.setCell ⟨R, 0, none⟩ x).setCell ⟨R, 1, none⟩ y).setCell ⟨R, 2, none⟩ z
theorem Bx3.three {W : World} {B : Nat} {t : TypeId} {a b c : Value} (h : Bx3 W B t a b c) (x y z : Value) : Bx3 (three W B x y z) B t x y z := ((h.set0 x).set1 y).set2 z
theorem below_three {w W : World} {n R : Nat} (h : Below n w W) (hR : n ≤ R) (x y z : Value) : Below n w (three W R x y z) :=
  ((h.setCell (p := ⟨R, 0, none⟩) hR x).setCell (p := ⟨R, 1, none⟩) hR y).setCell (p := ⟨R, 2, none⟩) hR z

/-- A merge: left, right, out, order. -/
abbrev Mg4 := Int × Int × Int × Int
def mv (xs : List Mg4) : List Value := xs.flatMap fun x => [.int .i64 x.1, .int .i64 x.2.1, .int .i64 x.2.2.1, .int .i64 x.2.2.2]
theorem mv_length (xs : List Mg4) : (mv xs).length = xs.length * 4 := by
  induction xs with
  | nil => rfl
  | cons x xs ih => simp only [mv, List.flatMap_cons, List.length_append, List.length_cons, List.length_nil] at ih ⊢; omega
theorem mv_append (xs ys : List Mg4) : mv xs ++ mv ys = mv (xs ++ ys) := by simp [mv]
theorem mv_one (xs : List Mg4) : ∀ u ∈ mv xs, u.oneCell' = true := by
  intro u hu
  simp only [mv, List.mem_flatMap] at hu
  obtain ⟨i, _, hi⟩ := hu
  simp at hi
  rcases hi with rfl | rfl | rfl | rfl <;> rfl
/-- The merge at a place. -/
def mat (xs : List Mg4) (i : Nat) : Mg4 := xs.getD i (0, 0, 0, 0)
theorem mv_get : ∀ (xs : List Mg4) (i : Nat), i < xs.length → (mv xs)[i * 4]? = some (.int .i64 (mat xs i).1) ∧ (mv xs)[i * 4 + 1]? = some (.int .i64 (mat xs i).2.1) ∧ (mv xs)[i * 4 + 2]? = some (.int .i64 (mat xs i).2.2.1) ∧ (mv xs)[i * 4 + 3]? = some (.int .i64 (mat xs i).2.2.2)
  | [], i, h => by simp at h
  | x :: xs, 0, h => ⟨rfl, rfl, rfl, rfl⟩
  | x :: xs, i + 1, h => by
    have ih := mv_get xs i (by simpa using h)
    have e1 : (i + 1) * 4 = i * 4 + 1 + 1 + 1 + 1 := by omega
    rw [e1]
    exact ih
theorem mv_inv {xs : List Mg4} {j : Nat} {u : Value} (h : (mv xs)[j]? = some u) : ∃ i, i < xs.length ∧ ((j = i * 4 ∧ u = .int .i64 (mat xs i).1) ∨ (j = i * 4 + 1 ∧ u = .int .i64 (mat xs i).2.1) ∨ (j = i * 4 + 2 ∧ u = .int .i64 (mat xs i).2.2.1) ∨ (j = i * 4 + 3 ∧ u = .int .i64 (mat xs i).2.2.2)) := by
  have hj : j < xs.length * 4 := by
    have := (List.getElem?_eq_some_iff.1 h).1
    rwa [mv_length] at this
  obtain ⟨e0, e1, e2, e3⟩ := mv_get xs (j / 4) (by omega)
  refine ⟨j / 4, by omega, ?_⟩
  obtain h3 | h3 | h3 | h3 : j = j / 4 * 4 ∨ j = j / 4 * 4 + 1 ∨ j = j / 4 * 4 + 2 ∨ j = j / 4 * 4 + 3 := by omega
  · rw [← h3] at e0; rw [e0] at h; exact .inl ⟨h3, (Option.some.inj h).symm⟩
  · rw [← h3] at e1; rw [e1] at h; exact .inr (.inl ⟨h3, (Option.some.inj h).symm⟩)
  · rw [← h3] at e2; rw [e2] at h; exact .inr (.inr (.inl ⟨h3, (Option.some.inj h).symm⟩))
  · rw [← h3] at e3; rw [e3] at h; exact .inr (.inr (.inr ⟨h3, (Option.some.inj h).symm⟩))
theorem mat_ext {xs ys : List Mg4} (hl : xs.length = ys.length) (h : ∀ i, i < xs.length → mat xs i = mat ys i) : xs = ys := by
  apply List.ext_getElem hl
  intro i h1 h2
  have := h i h1
  simpa [mat, h1, h2] using this
theorem mat_mem {xs : List Mg4} {i : Nat} (h : i < xs.length) : mat xs i ∈ xs := by
  have : mat xs i = xs[i] := by simp [mat, h]
  rw [this]; exact List.getElem_mem h
theorem mem_mat {xs : List Mg4} {x : Mg4} (h : x ∈ xs) : ∃ i, i < xs.length ∧ mat xs i = x := by
  obtain ⟨i, hi, e⟩ := List.mem_iff_getElem.1 h
  exact ⟨i, hi, by simp [mat, hi, e]⟩

/-- A slice of merges: nil, or it leads to cells that hold them. -/
structure Qw (w : World) (a : Option Addr) (n cap : Nat) (xs : List Mg4) : Prop where
  len : xs.length = n
  le : n ≤ cap
  mx : cap ≤ maxLen
  nil : a = none → n = 0 ∧ cap = 0
  at' : 0 < n → ∃ b off, a = some ⟨b, off, none⟩ ∧ b < w.heap.size ∧ ∀ i, i < n → w.cell? ⟨b, off + i * 4, none⟩ = some (.int .i64 (mat xs i).1) ∧ w.cell? ⟨b, off + i * 4 + 1, none⟩ = some (.int .i64 (mat xs i).2.1) ∧ w.cell? ⟨b, off + i * 4 + 2, none⟩ = some (.int .i64 (mat xs i).2.2.1) ∧ w.cell? ⟨b, off + i * 4 + 3, none⟩ = some (.int .i64 (mat xs i).2.2.2)
theorem Qw.below {w w' : World} {a : Option Addr} {n cap : Nat} {xs : List Mg4} (h : Qw w a n cap xs) (hb : Below w.heap.size w w') : Qw w' a n cap xs :=
  ⟨h.len, h.le, h.mx, h.nil, fun hn => by
    obtain ⟨b, off, rfl, hlt, hc⟩ := h.at' hn
    refine ⟨b, off, rfl, Nat.lt_of_lt_of_le hlt hb.size, fun i hi => ?_⟩
    obtain ⟨c0, c1, c2, c3⟩ := hc i hi
    refine ⟨?_, ?_, ?_, ?_⟩
    · rw [hb.cell (p := ⟨b, off + i * 4, none⟩) hlt]; exact c0
    · rw [hb.cell (p := ⟨b, off + i * 4 + 1, none⟩) hlt]; exact c1
    · rw [hb.cell (p := ⟨b, off + i * 4 + 2, none⟩) hlt]; exact c2
    · rw [hb.cell (p := ⟨b, off + i * 4 + 3, none⟩) hlt]; exact c3⟩
theorem Qw.first {w : World} {a : Option Addr} {n cap : Nat} {xs : List Mg4} (h : Qw w a n cap xs) (m : Nat) (hm : m ≤ n) : Qw w a m cap (xs.take m) :=
  ⟨by rw [List.length_take, h.len]; omega, Nat.le_trans hm h.le, h.mx, fun e => ⟨by have := (h.nil e).1; omega, (h.nil e).2⟩, fun h0 => by
    obtain ⟨b, off, e, hlt, hc⟩ := h.at' (by omega)
    refine ⟨b, off, e, hlt, fun i hi => ?_⟩
    have q := hc i (by omega)
    have e1 : mat (xs.take m) i = mat xs i := by simp [mat, List.getD_eq_getElem?_getD, hi]
    rw [e1]
    exact q⟩
theorem Qw.none (w : World) (c : Nat) (a : Option Addr) (hc : c ≤ maxLen) (h : a = .none → c = 0) : Qw w a 0 c [] :=
  ⟨rfl, Nat.zero_le _, hc, fun e => ⟨rfl, h e⟩, fun h => absurd h (by omega)⟩
theorem Qw.ofOwn {w : World} {base : Nat} {e : TypeId} {v : Value} {n : Nat} {xs : List Mg4} (h : w.ownsRow base e 4 v n (mv xs)) : ∃ a cap, v = .slice a n cap ∧ Qw w a n cap xs := by
  obtain ⟨hl, h⟩ := h
  rw [mv_length] at hl
  rcases h with ⟨rfl, rfl⟩ | ⟨g, cap, cur, rfl, hb, hg, hn, hm, hs, ht⟩
  · exact ⟨_, 0, rfl, by omega, by omega, Nat.zero_le _, fun _ => ⟨rfl, rfl⟩, fun h => absurd h (by omega)⟩
  · refine ⟨_, cap, rfl, by omega, hn, hm, fun h => absurd h (by simp), fun h0 => ⟨g, 0, rfl, (Array.getElem?_eq_some_iff.1 hg).1, fun i hi => ?_⟩⟩
    have key : ∀ j x, (mv xs)[j]? = some x → w.cell? ⟨g, 0 + j, .none⟩ = some x := fun j x hj => by
      have hj' : j < n * 4 := by
        have := (List.getElem?_eq_some_iff.1 hj).1
        rw [mv_length] at this
        omega
      rw [← ht, List.getElem?_take_of_lt hj'] at hj
      have e2 : cur[j]? = some x := by simpa using hj
      simp [World.cell?, hg, e2]
    have q := mv_get xs i (by omega)
    exact ⟨key _ _ q.1, key _ _ q.2.1, key _ _ q.2.2.1, key _ _ q.2.2.2⟩
theorem Qw.ofOwn' {w : World} {base : Nat} {e : TypeId} {a : Option Addr} {n cap : Nat} {xs : List Mg4} (h : w.ownsRow base e 4 (.slice a n cap) n (mv xs)) : Qw w a n cap xs := by
  obtain ⟨a2, c2, e2, h2⟩ := Qw.ofOwn h
  cases e2
  exact h2
theorem src_merge {w : World} (l r o d : Int) (ty : TypeId) : Src (w.alloc (.cells #[.int .i64 l, .int .i64 r, .int .i64 o, .int .i64 d] ty)) (some ⟨w.heap.size, 0, none⟩) 1 1 4 [.int .i64 l, .int .i64 r, .int .i64 o, .int .i64 d] :=
  Src.new #[.int .i64 l, .int .i64 r, .int .i64 o, .int .i64 d] ty w.heap.size rfl rfl (fun u hu => by simp at hu; rcases hu with rfl | rfl | rfl | rfl <;> rfl)
theorem mv_snoc (xs : List Mg4) (l r o d : Int) : mv xs ++ [.int .i64 l, .int .i64 r, .int .i64 o, .int .i64 d] = mv (xs ++ [(l, r, o, d)]) := by rw [← mv_append]; rfl

/-- A vocabulary in memory: its tokens, merges, specials. -/
structure Vo (w : World) (a : Option Addr) (n c : Nat) (am : Option Addr) (nm cm : Nat) (az : Option Addr) (ns cs : Nat) (ts : List ByteArray) (ms : List Mg4) (sp : List (ByteArray × Int)) : Prop where
  T : Ts w a n c ts
  M : Qw w am nm cm ms
  S : Rw w az ns cs sp
theorem Vo.below {w w' : World} {a : Option Addr} {n c : Nat} {am : Option Addr} {nm cm : Nat} {az : Option Addr} {ns cs : Nat} {ts : List ByteArray} {ms : List Mg4} {sp : List (ByteArray × Int)} (h : Vo w a n c am nm cm az ns cs ts ms sp) (hb : Below w.heap.size w w') : Vo w' a n c am nm cm az ns cs ts ms sp :=
  ⟨h.T.below hb, h.M.below hb, h.S.below hb⟩
theorem tok_mem {ts : List ByteArray} {i : Nat} (h : i < ts.length) : at_ ts i ∈ ts := by
  have : at_ ts i = ts[i] := by simp [at_, h]
  rw [this]; exact List.getElem_mem h
theorem mem_tok {ts : List ByteArray} {x : ByteArray} (h : x ∈ ts) : ∃ i, i < ts.length ∧ at_ ts i = x := by
  obtain ⟨i, hi, e⟩ := List.mem_iff_getElem.1 h
  exact ⟨i, hi, by simp [at_, hi, e]⟩
theorem row_mem {xs : List (ByteArray × Int)} {i : Nat} (h : i < xs.length) : (tat xs i, kat xs i) ∈ xs := by
  have : (tat xs i, kat xs i) = xs[i] := by simp [tat, kat, h]
  rw [this]; exact List.getElem_mem h
theorem mem_row {xs : List (ByteArray × Int)} {x : ByteArray × Int} (h : x ∈ xs) : ∃ i, i < xs.length ∧ tat xs i = x.1 ∧ kat xs i = x.2 := by
  obtain ⟨i, hi, e⟩ := List.mem_iff_getElem.1 h
  exact ⟨i, hi, by simp [tat, hi, e], by simp [kat, hi, e]⟩
end Go.Proofs.Ytfgbpjajkmfkoaa
