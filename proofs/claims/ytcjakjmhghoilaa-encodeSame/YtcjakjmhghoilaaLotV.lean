/-
  Several texts in one: Ts, BxF, Rk, Mg, Vc, VcMath, VcMk, VcNm, VcMathB, VcF0, PrMath, PrFx.
-/
import Derived.Test.YtcjakjmhghoilaaLotG
import Derived.RangeFuncBox
import Derived.OwnWalk
import Derived.Maps.Own
import Derived.Maps.OwnOps
import Derived.Maps.OwnSet
import Derived.Maps.Views
import Derived.StringKeys
import Derived.Sort.Walk0
/-
  Rows of texts: what lies in memory, told by lists of strings; and strings as lists of bytes. No program is named here.
-/
namespace Go.Proofs.Ytcjakjmhghoilaa
open Go.RowKit

/-- Texts as values. -/
def tv (xs : List ByteArray) : List Value := xs.map Value.string
theorem tv_length (xs : List ByteArray) : (tv xs).length = xs.length := by simp [tv]
theorem tv_append (xs ys : List ByteArray) : tv xs ++ tv ys = tv (xs ++ ys) := by simp [tv]
theorem tv_one (xs : List ByteArray) : ∀ u ∈ tv xs, u.oneCell' = true := by
  intro u hu
  simp only [tv, List.mem_map] at hu
  obtain ⟨i, _, rfl⟩ := hu
  rfl
/-- The text at a place. -/
def at_ (xs : List ByteArray) (i : Nat) : ByteArray := xs.getD i ⟨#[]⟩
theorem tv_get (xs : List ByteArray) (i : Nat) (h : i < xs.length) : (tv xs)[i]? = some (.string (at_ xs i)) := by simp [tv, at_, h]

/-- A slice of texts: nil, or it leads to cells that hold them. -/
structure Ts (w : World) (a : Option Addr) (n cap : Nat) (xs : List ByteArray) : Prop where
  len : xs.length = n
  le : n ≤ cap
  mx : cap ≤ maxLen
  nil : a = none → n = 0 ∧ cap = 0
  at' : 0 < n → ∃ b off, a = some ⟨b, off, none⟩ ∧ b < w.heap.size ∧ ∀ i, i < n → w.cell? ⟨b, off + i, none⟩ = some (.string (at_ xs i))
theorem Ts.below {w w' : World} {a : Option Addr} {n cap : Nat} {xs : List ByteArray} (h : Ts w a n cap xs) (hb : Below w.heap.size w w') : Ts w' a n cap xs :=
  ⟨h.len, h.le, h.mx, h.nil, fun hn => by
    obtain ⟨b, off, rfl, hlt, hc⟩ := h.at' hn
    exact ⟨b, off, rfl, Nat.lt_of_lt_of_le hlt hb.size, fun i hi => by rw [hb.cell (p := ⟨b, off + i, none⟩) hlt]; exact hc i hi⟩⟩
/-- A row of the call's own as a slice of texts. -/
theorem Ts.ofOwn {w : World} {base : Nat} {e : TypeId} {v : Value} {n : Nat} {xs : List ByteArray} (h : w.ownsRow base e 1 v n (tv xs)) : ∃ a cap, v = .slice a n cap ∧ Ts w a n cap xs := by
  obtain ⟨hl, h⟩ := h
  rw [tv_length, Nat.mul_one] at hl
  rcases h with ⟨rfl, rfl⟩ | ⟨g, cap, cur, rfl, hb, hg, hn, hm, hs, ht⟩
  · exact ⟨none, 0, rfl, hl, by omega, Nat.zero_le _, fun _ => ⟨rfl, rfl⟩, fun h => absurd h (by omega)⟩
  · refine ⟨_, cap, rfl, hl, hn, hm, fun h => absurd h (by simp), fun h0 => ⟨g, 0, rfl, (Array.getElem?_eq_some_iff.1 hg).1, fun i hi => ?_⟩⟩
    have e1 : (cur.toList.take (n * 1))[i]? = some (.string (at_ xs i)) := by rw [ht]; exact tv_get xs i (by omega)
    rw [List.getElem?_take_of_lt (by omega)] at e1
    have e2 : cur[i]? = some (.string (at_ xs i)) := by simpa using e1
    simp [World.cell?, hg, e2]
theorem Ts.ofOwn' {w : World} {base : Nat} {e : TypeId} {a : Option Addr} {n cap : Nat} {xs : List ByteArray} (h : w.ownsRow base e 1 (.slice a n cap) n (tv xs)) : Ts w a n cap xs := by
  obtain ⟨a2, c2, e2, h2⟩ := Ts.ofOwn h
  cases e2
  exact h2
/-- A slice of texts as what is appended. -/
theorem Ts.src {w : World} {a : Option Addr} {n cap : Nat} {xs : List ByteArray} (h : Ts w a n cap xs) : Src w a n cap 1 (tv xs) :=
  ⟨by rw [tv_length, h.len, Nat.mul_one], tv_one xs, h.nil, fun ad ha j u hu => by
    have hj : j < n := by
      have := (List.getElem?_eq_some_iff.1 hu).1
      rwa [tv_length, h.len] at this
    rw [tv_get xs j (by rw [h.len]; exact hj)] at hu
    cases hu
    obtain ⟨b, off, hab, _, hc⟩ := h.at' (by omega)
    rw [ha] at hab
    cases hab
    rw [Addr.add_lit]
    exact hc j hj⟩
theorem at_ext {xs ys : List ByteArray} (hl : xs.length = ys.length) (h : ∀ i, i < xs.length → at_ xs i = at_ ys i) : xs = ys := by
  apply List.ext_getElem hl
  intro i h1 h2
  have := h i h1
  simpa [at_, h1, h2] using this

/-! ### Strings as lists of bytes -/
def mk (l : List UInt8) : ByteArray := ⟨l.toArray⟩
def by_ (s : ByteArray) : List UInt8 := s.data.toList
theorem mk_by (s : ByteArray) : mk (by_ s) = s := by simp [mk, by_]
theorem by_mk (l : List UInt8) : by_ (mk l) = l := by simp [mk, by_]
theorem mk_inj {a b : List UInt8} (h : mk a = mk b) : a = b := by rw [← by_mk a, ← by_mk b, h]
theorem by_inj {a b : ByteArray} (h : by_ a = by_ b) : a = b := by rw [← mk_by a, ← mk_by b, h]
theorem by_length (s : ByteArray) : (by_ s).length = s.size := Array.length_toList
theorem mk_size (l : List UInt8) : (mk l).size = l.length := List.size_toArray
theorem by_toList (s : ByteArray) : s.toList = by_ s := by rw [ByteArray.toList_eq]; rfl
theorem by_append (s t : ByteArray) : by_ (s ++ t) = by_ s ++ by_ t := by simp [by_]
theorem mk_append (a b : List UInt8) : mk a ++ mk b = mk (a ++ b) := by apply by_inj; rw [by_append, by_mk, by_mk, by_mk]
theorem mk_map_inj {a b : List (List UInt8)} (h : a.map mk = b.map mk) : a = b := by
  have := congrArg (List.map by_) h
  simpa [List.map_map, Function.comp_def, by_mk] using this
theorem by_extract (s : ByteArray) (i j : Nat) : by_ (s.extract i j) = ((by_ s).take j).drop i := by
  simp [by_, ByteArray.data_extract, List.drop_take]
theorem by_get {s : ByteArray} {i : Nat} (h : i < s.size) : ∃ x : UInt8, (by_ s).drop i = x :: (by_ s).drop (i + 1) ∧ (x.toNat : Int) = bytesF s i ∧ (by_ s)[i]? = some x := by
  have hl : i < (by_ s).length := by rw [by_length]; exact h
  refine ⟨(by_ s)[i], List.drop_eq_getElem_cons hl, ?_, List.getElem?_eq_getElem hl⟩
  have hg := (St.any s).get i h
  rw [← hg]
  rfl
end Go.Proofs.Ytcjakjmhghoilaa

/-
  A block of four cells (a struct's), as it lies and as it is written; rows of the call's own over writes into other blocks. No program is named here.
-/
namespace Go.Proofs.Ytcjakjmhghoilaa
open Go.RowKit

theorem grown_setCell (W : World) (b o : Nat) (v : Value) : W.grownBy (W.setCell ⟨b, o, none⟩ v) (some b) :=
  ⟨rfl, rfl, rfl, (KeepsWalks.setCell W _ v).size, fun k _ hk => Below.heap_setCell _ _ _ k (fun e => hk (by rw [e]))⟩
def Bx4 (W : World) (B : Nat) (t : TypeId) (x y z u : Value) : Prop := W.heap[B]? = some (.cells #[x, y, z, u] t (0, 0))
section
variable {W : World} {B : Nat} {t : TypeId} {x y z u : Value}
theorem Bx4.lt (h : Bx4 W B t x y z u) : B < W.heap.size := (Array.getElem?_eq_some_iff.1 h).1
theorem Bx4.cell0 (h : Bx4 W B t x y z u) : W.cell? ⟨B, 0, none⟩ = some x := by simp [World.cell?, show W.heap[B]? = _ from h]
theorem Bx4.cell1 (h : Bx4 W B t x y z u) : W.cell? ⟨B, 1, none⟩ = some y := by simp [World.cell?, show W.heap[B]? = _ from h]
theorem Bx4.cell2 (h : Bx4 W B t x y z u) : W.cell? ⟨B, 2, none⟩ = some z := by simp [World.cell?, show W.heap[B]? = _ from h]
theorem Bx4.cell3 (h : Bx4 W B t x y z u) : W.cell? ⟨B, 3, none⟩ = some u := by simp [World.cell?, show W.heap[B]? = _ from h]
theorem Bx4.fr (h : Bx4 W B t x y z u) (j : Nat) : W.frozen? ⟨B, j, none⟩ = false := by simp [World.frozen?, show W.heap[B]? = _ from h]
theorem Bx4.new (W : World) (t : TypeId) (x y z u : Value) : Bx4 (W.alloc (.cells #[x, y, z, u] t)) W.heap.size t x y z u := World.alloc_heap_new W _
theorem Bx4.below {W' : World} {n : Nat} (h : Bx4 W B t x y z u) (hb : Below n W W') (hn : B < n) : Bx4 W' B t x y z u := (hb.block B hn).trans h
theorem Bx4.alloc (h : Bx4 W B t x y z u) (o : Obj) : Bx4 (W.alloc o) B t x y z u := (Below.heap_alloc _ _ _ h.lt).trans h
theorem Bx4.mut {W' : World} {S : Nat → Prop} (h : Bx4 W B t x y z u) (hm : Mut S W W') (hn : ¬ S B) : Bx4 W' B t x y z u := (hm.block B h.lt hn).trans h
theorem Bx4.kept {W' : World} {row : Option Nat} (h : Bx4 W B t x y z u) (hg : W.grownBy W' row) (hne : some B ≠ row) : Bx4 W' B t x y z u := (hg.block B h.lt hne).trans h
theorem Bx4.set0 (h : Bx4 W B t x y z u) (v : Value) : Bx4 (W.setCell ⟨B, 0, none⟩ v) B t v y z u := by
  obtain ⟨hlt, hk⟩ := Array.getElem?_eq_some_iff.1 h
  show (W.heap.modify B _)[B]? = _
  rw [Array.getElem?_eq_getElem (by rw [Array.size_modify]; exact hlt), Array.getElem_modify_self, hk]
  rfl
theorem Bx4.set1 (h : Bx4 W B t x y z u) (v : Value) : Bx4 (W.setCell ⟨B, 1, none⟩ v) B t x v z u := by
  obtain ⟨hlt, hk⟩ := Array.getElem?_eq_some_iff.1 h
  show (W.heap.modify B _)[B]? = _
  rw [Array.getElem?_eq_getElem (by rw [Array.size_modify]; exact hlt), Array.getElem_modify_self, hk]
  rfl
theorem Bx4.set2 (h : Bx4 W B t x y z u) (v : Value) : Bx4 (W.setCell ⟨B, 2, none⟩ v) B t x y v u := by
  obtain ⟨hlt, hk⟩ := Array.getElem?_eq_some_iff.1 h
  show (W.heap.modify B _)[B]? = _
  rw [Array.getElem?_eq_getElem (by rw [Array.size_modify]; exact hlt), Array.getElem_modify_self, hk]
  rfl
theorem Bx4.set3 (h : Bx4 W B t x y z u) (v : Value) : Bx4 (W.setCell ⟨B, 3, none⟩ v) B t x y z v := by
  obtain ⟨hlt, hk⟩ := Array.getElem?_eq_some_iff.1 h
  show (W.heap.modify B _)[B]? = _
  rw [Array.getElem?_eq_getElem (by rw [Array.size_modify]; exact hlt), Array.getElem_modify_self, hk]
  rfl
end
theorem Bx4.drew {W : World} {B : Nat} {t : TypeId} {x y z u : Value} (h : Bx4 W B t x y z u) : Bx4 W.drew B t x y z u := h
/-- A row of the call's own over a write into another block. -/
theorem own_set {W : World} {base : Nat} {e : TypeId} {size : Nat} {v : Value} {n B j : Nat} {xs : List Value} (h : W.ownsRow base e size v n xs) (hB : v.ownBlock ≠ some B) (x : Value) : (W.setCell ⟨B, j, none⟩ x).ownsRow base e size v n xs :=
  h.kept (grown_setCell W B j x) (.inr hB)
theorem own_block {W : World} {base : Nat} {e : TypeId} {size : Nat} {v : Value} {n B : Nat} {xs : List Value} (h : W.ownsRow base e size v n xs) (hB : B < base) : v.ownBlock ≠ some B := fun e => by have := (h.lt B e).1; omega
theorem own_mut {W W' : World} {S : Nat → Prop} {base : Nat} {e : TypeId} {size : Nat} {v : Value} {n : Nat} {xs : List Value} (h : W.ownsRow base e size v n xs) (hm : Mut S W W') (hn : ∀ k, v.ownBlock = some k → ¬ S k) : W'.ownsRow base e size v n xs := by
  refine ⟨h.1, ?_⟩
  rcases h.2 with q | ⟨g, cap, cur, hv, hB, hg, rest⟩
  · exact .inl q
  · refine .inr ⟨g, cap, cur, hv, hB, ?_, rest⟩
    rw [hm.block g (Array.getElem?_eq_some_iff.1 hg).1 (hn g (by rw [hv]; rfl))]
    exact hg
/-- The frame of an append to a row of the call's own above M. -/
theorem Mut.grown {S : Nat → Prop} {a b c : World} {row : Option Nat} (h : Mut S a b) (hg : b.grownBy c row) (hr : ∀ k, row = some k → S k) : Mut S a c :=
  ⟨hg.os.trans h.os, hg.tape.trans h.tape, hg.output.trans h.output, Nat.le_trans h.size hg.size, fun k hk hn => (hg.block k (Nat.lt_of_lt_of_le hk h.size) (fun e => hn (hr k e.symm))).trans (h.block k hk hn)⟩
theorem Mut.alloc {S : Nat → Prop} {a b : World} (h : Mut S a b) (o : Obj) : Mut S a (b.alloc o) :=
  h.trans (Mut.ofBelow ((Below.refl _ b).alloc (Nat.le_refl _) o) S) (fun _ _ e => e)
theorem Mut.setCell {S : Nat → Prop} {a b : World} (h : Mut S a b) (B j : Nat) (v : Value) (hB : S B) : Mut S a (b.setCell ⟨B, j, none⟩ v) :=
  h.trans (Mut.set b B j v (S := S) hB) (fun _ _ e => e)
theorem Mut.then_below {S : Nat → Prop} {a b c : World} (h : Mut S a b) (k : Below b.heap.size b c) : Mut S a c := h.trans (Mut.ofBelow k S) (fun _ _ e => e)

end Go.Proofs.Ytcjakjmhghoilaa

/-
  A block of two cells (a struct's), as it lies and as it is written; rows of a file of ranks in memory: a text and a number each. No program is named here.
-/
namespace Go.Proofs.Ytcjakjmhghoilaa
open Go.RowKit

def Bx2 (W : World) (B : Nat) (t : TypeId) (x y : Value) : Prop := W.heap[B]? = some (.cells #[x, y] t (0, 0))
section
variable {W : World} {B : Nat} {t : TypeId} {x y : Value}
theorem Bx2.lt (h : Bx2 W B t x y) : B < W.heap.size := (Array.getElem?_eq_some_iff.1 h).1
theorem Bx2.cell0 (h : Bx2 W B t x y) : W.cell? ⟨B, 0, none⟩ = some x := by simp [World.cell?, show W.heap[B]? = _ from h]
theorem Bx2.cell1 (h : Bx2 W B t x y) : W.cell? ⟨B, 1, none⟩ = some y := by simp [World.cell?, show W.heap[B]? = _ from h]
theorem Bx2.fr0 (h : Bx2 W B t x y) : W.frozen? ⟨B, 0, none⟩ = false := by simp [World.frozen?, show W.heap[B]? = _ from h]
theorem Bx2.fr1 (h : Bx2 W B t x y) : W.frozen? ⟨B, 1, none⟩ = false := by simp [World.frozen?, show W.heap[B]? = _ from h]
theorem Bx2.new (W : World) (t : TypeId) (x y : Value) : Bx2 (W.alloc (.cells #[x, y] t)) W.heap.size t x y := World.alloc_heap_new W _
theorem Bx2.below {W' : World} {n : Nat} (h : Bx2 W B t x y) (hb : Below n W W') (hn : B < n) : Bx2 W' B t x y := (hb.block B hn).trans h
theorem Bx2.alloc (h : Bx2 W B t x y) (o : Obj) : Bx2 (W.alloc o) B t x y := (Below.heap_alloc _ _ _ h.lt).trans h
theorem Bx2.set0 (h : Bx2 W B t x y) (x' : Value) : Bx2 (W.setCell ⟨B, 0, none⟩ x') B t x' y := by
  obtain ⟨hlt, hk⟩ := Array.getElem?_eq_some_iff.1 h
  show (W.heap.modify B _)[B]? = _
  rw [Array.getElem?_eq_getElem (by rw [Array.size_modify]; exact hlt), Array.getElem_modify_self, hk]
  rfl
theorem Bx2.set1 (h : Bx2 W B t x y) (y' : Value) : Bx2 (W.setCell ⟨B, 1, none⟩ y') B t x y' := by
  obtain ⟨hlt, hk⟩ := Array.getElem?_eq_some_iff.1 h
  show (W.heap.modify B _)[B]? = _
  rw [Array.getElem?_eq_getElem (by rw [Array.size_modify]; exact hlt), Array.getElem_modify_self, hk]
  rfl
/-- What a row of the call's own, of another kind, leaves of it. -/
theorem Bx2.kept {W' : World} {row : Option Nat} (h : Bx2 W B t x y) (hg : W.grownBy W' row) (hne : some B ≠ row) : Bx2 W' B t x y := (hg.block B h.lt hne).trans h
end
/-- Both cells of a new block written: old memory is as it was. -/
theorem below_two {w W : World} {n B : Nat} (h : Below n w W) (hB : n ≤ B) (x y : Value) : Below n w ((W.setCell ⟨B, 0, none⟩ x).setCell ⟨B, 1, none⟩ y) :=
  (h.setCell (p := ⟨B, 0, none⟩) hB x).setCell (p := ⟨B, 1, none⟩) hB y
theorem cell_alloc {W : World} {p : Addr} {v : Value} (h : W.cell? p = some v) (o : Obj) : (W.alloc o).cell? p = some v := by
  rw [((Below.refl W.heap.size W).alloc (Nat.le_refl _) o).cell (World.block_lt_of_cell? _ _ h)]
  exact h
/-- A row of the call's own over both writes into another block. -/
theorem own_two {W : World} {base : Nat} {e : TypeId} {size : Nat} {v : Value} {n B : Nat} {xs : List Value} (h : W.ownsRow base e size v n xs) (hB : B < base) (x y : Value) : ((W.setCell ⟨B, 0, none⟩ x).setCell ⟨B, 1, none⟩ y).ownsRow base e size v n xs :=
  have hne : v.ownBlock ≠ some B := fun e => by have := (h.lt B e).1; omega
  (h.kept (grown_setCell W B 0 x) (.inr hne)).kept (grown_setCell _ B 1 y) (.inr hne)

/-- Rows as values. -/
def rv (xs : List (ByteArray × Int)) : List Value := xs.flatMap fun x => [.string x.1, .int .i64 x.2]
theorem rv_length (xs : List (ByteArray × Int)) : (rv xs).length = xs.length * 2 := by
  induction xs with
  | nil => rfl
  | cons x xs ih => simp only [rv, List.flatMap_cons, List.length_append, List.length_cons, List.length_nil] at ih ⊢; omega
theorem rv_append (xs ys : List (ByteArray × Int)) : rv xs ++ rv ys = rv (xs ++ ys) := by simp [rv]
theorem rv_snoc (xs : List (ByteArray × Int)) (t : ByteArray) (k : Int) : rv xs ++ [.string t, .int .i64 k] = rv (xs ++ [(t, k)]) := by rw [← rv_append]; rfl
theorem rv_one (xs : List (ByteArray × Int)) : ∀ u ∈ rv xs, u.oneCell' = true := by
  intro u hu
  simp only [rv, List.mem_flatMap] at hu
  obtain ⟨i, _, hi⟩ := hu
  simp at hi
  rcases hi with rfl | rfl <;> rfl
/-- The row at a place. -/
def tat (xs : List (ByteArray × Int)) (i : Nat) : ByteArray := (xs.getD i (⟨#[]⟩, 0)).1
def kat (xs : List (ByteArray × Int)) (i : Nat) : Int := (xs.getD i (⟨#[]⟩, 0)).2
theorem rv_get : ∀ (xs : List (ByteArray × Int)) (i : Nat), i < xs.length → (rv xs)[i * 2]? = some (.string (tat xs i)) ∧ (rv xs)[i * 2 + 1]? = some (.int .i64 (kat xs i))
  | [], i, h => by simp at h
  | x :: xs, 0, h => ⟨rfl, rfl⟩
  | x :: xs, i + 1, h => by
    have ih := rv_get xs i (by simpa using h)
    have e1 : (i + 1) * 2 = i * 2 + 1 + 1 := by omega
    rw [e1]
    exact ih
theorem rv_inv {xs : List (ByteArray × Int)} {j : Nat} {u : Value} (h : (rv xs)[j]? = some u) : ∃ i, i < xs.length ∧ ((j = i * 2 ∧ u = .string (tat xs i)) ∨ (j = i * 2 + 1 ∧ u = .int .i64 (kat xs i))) := by
  have hj : j < xs.length * 2 := by
    have := (List.getElem?_eq_some_iff.1 h).1
    rwa [rv_length] at this
  obtain ⟨e0, e1⟩ := rv_get xs (j / 2) (by omega)
  refine ⟨j / 2, by omega, ?_⟩
  obtain h3 | h3 : j = j / 2 * 2 ∨ j = j / 2 * 2 + 1 := by omega
  · rw [← h3] at e0; rw [e0] at h; exact .inl ⟨h3, (Option.some.inj h).symm⟩
  · rw [← h3] at e1; rw [e1] at h; exact .inr ⟨h3, (Option.some.inj h).symm⟩
theorem rat_ext {xs ys : List (ByteArray × Int)} (hl : xs.length = ys.length) (h : ∀ i, i < xs.length → tat xs i = tat ys i ∧ kat xs i = kat ys i) : xs = ys := by
  apply List.ext_getElem hl
  intro i h1 h2
  have := h i h1
  simp [tat, kat, h1, h2] at this
  exact Prod.ext this.1 this.2

/-- A slice of rows: nil, or it leads to cells that hold them. -/
structure Rw (w : World) (a : Option Addr) (n cap : Nat) (xs : List (ByteArray × Int)) : Prop where
  len : xs.length = n
  le : n ≤ cap
  mx : cap ≤ maxLen
  nil : a = none → n = 0 ∧ cap = 0
  at' : 0 < n → ∃ b off, a = some ⟨b, off, none⟩ ∧ b < w.heap.size ∧ ∀ i, i < n → w.cell? ⟨b, off + i * 2, none⟩ = some (.string (tat xs i)) ∧ w.cell? ⟨b, off + i * 2 + 1, none⟩ = some (.int .i64 (kat xs i))
theorem Rw.below {w w' : World} {a : Option Addr} {n cap : Nat} {xs : List (ByteArray × Int)} (h : Rw w a n cap xs) (hb : Below w.heap.size w w') : Rw w' a n cap xs :=
  ⟨h.len, h.le, h.mx, h.nil, fun hn => by
    obtain ⟨b, off, rfl, hlt, hc⟩ := h.at' hn
    exact ⟨b, off, rfl, Nat.lt_of_lt_of_le hlt hb.size, fun i hi => ⟨by rw [hb.cell (p := ⟨b, off + i * 2, none⟩) hlt]; exact (hc i hi).1, by rw [hb.cell (p := ⟨b, off + i * 2 + 1, none⟩) hlt]; exact (hc i hi).2⟩⟩⟩
/-- The first rows of a slice. -/
theorem Rw.first {w : World} {a : Option Addr} {n cap : Nat} {xs : List (ByteArray × Int)} (h : Rw w a n cap xs) (m : Nat) (hm : m ≤ n) : Rw w a m cap (xs.take m) :=
  ⟨by rw [List.length_take, h.len]; omega, Nat.le_trans hm h.le, h.mx, fun e => ⟨by have := (h.nil e).1; omega, (h.nil e).2⟩, fun h0 => by
    obtain ⟨b, off, e, hlt, hc⟩ := h.at' (by omega)
    refine ⟨b, off, e, hlt, fun i hi => ?_⟩
    have q := hc i (by omega)
    have e1 : (xs.take m).getD i (⟨#[]⟩, 0) = xs.getD i (⟨#[]⟩, 0) := by simp [List.getD_eq_getElem?_getD, hi]
    unfold tat kat at q ⊢
    rw [e1]
    exact q⟩
/-- No rows. -/
theorem Rw.none (w : World) (c : Nat) (a : Option Addr) (hc : c ≤ maxLen) (h : a = .none → c = 0) : Rw w a 0 c [] :=
  ⟨rfl, Nat.zero_le _, hc, fun e => ⟨rfl, h e⟩, fun h => absurd h (by omega)⟩
/-- A row of the call's own as a slice of rows. -/
theorem Rw.ofOwn {w : World} {base : Nat} {e : TypeId} {v : Value} {n : Nat} {xs : List (ByteArray × Int)} (h : w.ownsRow base e 2 v n (rv xs)) : ∃ a cap, v = .slice a n cap ∧ Rw w a n cap xs := by
  obtain ⟨hl, h⟩ := h
  rw [rv_length] at hl
  rcases h with ⟨rfl, rfl⟩ | ⟨g, cap, cur, rfl, hb, hg, hn, hm, hs, ht⟩
  · exact ⟨_, 0, rfl, by omega, by omega, Nat.zero_le _, fun _ => ⟨rfl, rfl⟩, fun h => absurd h (by omega)⟩
  · refine ⟨_, cap, rfl, by omega, hn, hm, fun h => absurd h (by simp), fun h0 => ⟨g, 0, rfl, (Array.getElem?_eq_some_iff.1 hg).1, fun i hi => ?_⟩⟩
    have key : ∀ j x, (rv xs)[j]? = some x → w.cell? ⟨g, 0 + j, .none⟩ = some x := fun j x hj => by
      have hj' : j < n * 2 := by
        have := (List.getElem?_eq_some_iff.1 hj).1
        rw [rv_length] at this
        omega
      rw [← ht, List.getElem?_take_of_lt hj'] at hj
      have e2 : cur[j]? = some x := by simpa using hj
      simp [World.cell?, hg, e2]
    have q := rv_get xs i (by omega)
    exact ⟨key _ _ q.1, key _ _ q.2⟩
theorem Rw.ofOwn' {w : World} {base : Nat} {e : TypeId} {a : Option Addr} {n cap : Nat} {xs : List (ByteArray × Int)} (h : w.ownsRow base e 2 (.slice a n cap) n (rv xs)) : Rw w a n cap xs := by
  obtain ⟨a2, c2, e2, h2⟩ := Rw.ofOwn h
  cases e2
  exact h2
/-- One row that was just laid, as a slice. -/
theorem Rw.one {w : World} (t : ByteArray) (k : Int) (ty : TypeId) (b : Nat) (hb : b = w.heap.size) : Rw (w.alloc (.cells #[.string t, .int .i64 k] ty)) (some ⟨b, 0, .none⟩) 1 1 [(t, k)] := by
  subst hb
  refine ⟨rfl, Nat.le_refl _, by decide, fun e => absurd e (by simp), fun _ => ⟨w.heap.size, 0, rfl, by simp, fun i hi => ?_⟩⟩
  obtain rfl : i = 0 := by omega
  exact ⟨by simp [tat], by simp [kat]⟩
/-- One row that was just laid, as what is appended. -/
theorem src_row {w : World} (t : ByteArray) (k : Int) (ty : TypeId) : Src (w.alloc (.cells #[.string t, .int .i64 k] ty)) (some ⟨w.heap.size, 0, none⟩) 1 1 2 [.string t, .int .i64 k] :=
  Src.new #[.string t, .int .i64 k] ty w.heap.size rfl rfl (fun u hu => by simp at hu; rcases hu with rfl | rfl <;> rfl)
end Go.Proofs.Ytcjakjmhghoilaa

/-
  Pairs of texts in memory; a block of four cells (a struct's), as it lies and as it is written; two rows of the call's own beside each other. No program is named here.
-/
namespace Go.Proofs.Ytcjakjmhghoilaa
open Go.RowKit

theorem Bx2.drew {W : World} {B : Nat} {t : TypeId} {x y : Value} (h : Bx2 W B t x y) : Bx2 W.drew B t x y := h
theorem Bx2.other {W : World} {B D j : Nat} {t : TypeId} {x y : Value} (h : Bx2 W B t x y) (hne : B ≠ D) (v : Value) : Bx2 (W.setCell ⟨D, j, none⟩ v) B t x y :=
  (Below.heap_setCell _ _ _ _ (by simpa using hne)).trans h
theorem Bx2.mut {W W' : World} {S : Nat → Prop} {B : Nat} {t : TypeId} {x y : Value} (h : Bx2 W B t x y) (hm : Mut S W W') (hn : ¬ S B) : Bx2 W' B t x y := (hm.block B h.lt hn).trans h
/-- Both cells of each of two blocks written. -/
def four (W : World) (R F : Nat) (x y u v : Value) : World := (((W.setCell ⟨R, 0, none⟩ x).setCell ⟨R, 1, none⟩ y).setCell ⟨F, 0, none⟩ u).setCell ⟨F, 1, none⟩ v
theorem ret_four {W : World} {R F : Nat} {tr tf : TypeId} {a b c d : Value} (X : Bx2 W R tr a b) (Z : Bx2 W F tf c d) (hne : R ≠ F) (x y u v : Value) :
    Bx2 (W.setCell ⟨R, 0, none⟩ x) R tr x b ∧ Bx2 ((W.setCell ⟨R, 0, none⟩ x).setCell ⟨R, 1, none⟩ y) R tr x y ∧ Bx2 ((W.setCell ⟨R, 0, none⟩ x).setCell ⟨R, 1, none⟩ y) F tf c d ∧
    Bx2 (((W.setCell ⟨R, 0, none⟩ x).setCell ⟨R, 1, none⟩ y).setCell ⟨F, 0, none⟩ u) F tf u d ∧ Bx2 (four W R F x y u v) R tr x y ∧ Bx2 (four W R F x y u v) F tf u v :=
  have h1 := X.set0 x
  have h2 := h1.set1 y
  have h3 := (Z.other (D := R) (j := 0) (Ne.symm hne) x).other (D := R) (j := 1) (Ne.symm hne) y
  have h4 := h3.set0 u
  ⟨h1, h2, h3, h4, (h2.other (D := F) (j := 0) hne u).other (D := F) (j := 1) hne v, h4.set1 v⟩
theorem below_four {w W : World} {n R F : Nat} (h : Below n w W) (hR : n ≤ R) (hF : n ≤ F) (x y u v : Value) : Below n w (four W R F x y u v) :=
  below_two (below_two h hR x y) hF u v
theorem own_four {W : World} {base : Nat} {e : TypeId} {size : Nat} {v : Value} {n R F : Nat} {xs : List Value} (h : W.ownsRow base e size v n xs) (hR : R < base) (hF : F < base) (x y u z : Value) : (four W R F x y u z).ownsRow base e size v n xs :=
  own_two (own_two h hR x y) hF u z
/-- Two rows of the call's own, of two kinds, lie apart. -/
theorem own_apart {W : World} {b1 b2 : Nat} {e1 e2 : TypeId} {s1 s2 : Nat} {v1 v2 : Value} {n1 n2 : Nat} {xs ys : List Value} (h1 : W.ownsRow b1 e1 s1 v1 n1 xs) (h2 : W.ownsRow b2 e2 s2 v2 n2 ys) (hne : e1 ≠ e2) : v1.ownBlock = none ∨ v1.ownBlock ≠ v2.ownBlock := by
  rcases h1.2 with ⟨rfl, _⟩ | ⟨g, cap, cur, rfl, hb, hg, _⟩
  · exact .inl rfl
  · refine .inr fun e => ?_
    rcases h2.2 with ⟨rfl, _⟩ | ⟨g2, cap2, cur2, rfl, hb2, hg2, _⟩
    · simp [Value.ownBlock] at e
    · simp [Value.ownBlock] at e
      subst e
      rw [hg] at hg2
      simp at hg2
      exact hne hg2.2
/-- Pairs as values. -/
def pv (xs : List (ByteArray × ByteArray)) : List Value := xs.flatMap fun x => [.string x.1, .string x.2]
theorem pv_length (xs : List (ByteArray × ByteArray)) : (pv xs).length = xs.length * 2 := by
  induction xs with
  | nil => rfl
  | cons x xs ih => simp only [pv, List.flatMap_cons, List.length_append, List.length_cons, List.length_nil] at ih ⊢; omega
theorem pv_append (xs ys : List (ByteArray × ByteArray)) : pv xs ++ pv ys = pv (xs ++ ys) := by simp [pv]
theorem pv_snoc (xs : List (ByteArray × ByteArray)) (t : ByteArray) (k : ByteArray) : pv xs ++ [.string t, .string k] = pv (xs ++ [(t, k)]) := by rw [← pv_append]; rfl
theorem pv_one (xs : List (ByteArray × ByteArray)) : ∀ u ∈ pv xs, u.oneCell' = true := by
  intro u hu
  simp only [pv, List.mem_flatMap] at hu
  obtain ⟨i, _, hi⟩ := hu
  simp at hi
  rcases hi with rfl | rfl <;> rfl
/-- The pair at a place. -/
def lat (xs : List (ByteArray × ByteArray)) (i : Nat) : ByteArray := (xs.getD i (⟨#[]⟩, ⟨#[]⟩)).1
def gat (xs : List (ByteArray × ByteArray)) (i : Nat) : ByteArray := (xs.getD i (⟨#[]⟩, ⟨#[]⟩)).2
theorem pv_get : ∀ (xs : List (ByteArray × ByteArray)) (i : Nat), i < xs.length → (pv xs)[i * 2]? = some (.string (lat xs i)) ∧ (pv xs)[i * 2 + 1]? = some (.string (gat xs i))
  | [], i, h => by simp at h
  | x :: xs, 0, h => ⟨rfl, rfl⟩
  | x :: xs, i + 1, h => by
    have ih := pv_get xs i (by simpa using h)
    have e1 : (i + 1) * 2 = i * 2 + 1 + 1 := by omega
    rw [e1]
    exact ih
theorem pv_inv {xs : List (ByteArray × ByteArray)} {j : Nat} {u : Value} (h : (pv xs)[j]? = some u) : ∃ i, i < xs.length ∧ ((j = i * 2 ∧ u = .string (lat xs i)) ∨ (j = i * 2 + 1 ∧ u = .string (gat xs i))) := by
  have hj : j < xs.length * 2 := by
    have := (List.getElem?_eq_some_iff.1 h).1
    rwa [pv_length] at this
  obtain ⟨e0, e1⟩ := pv_get xs (j / 2) (by omega)
  refine ⟨j / 2, by omega, ?_⟩
  obtain h3 | h3 : j = j / 2 * 2 ∨ j = j / 2 * 2 + 1 := by omega
  · rw [← h3] at e0; rw [e0] at h; exact .inl ⟨h3, (Option.some.inj h).symm⟩
  · rw [← h3] at e1; rw [e1] at h; exact .inr ⟨h3, (Option.some.inj h).symm⟩
theorem qat_ext {xs ys : List (ByteArray × ByteArray)} (hl : xs.length = ys.length) (h : ∀ i, i < xs.length → lat xs i = lat ys i ∧ gat xs i = gat ys i) : xs = ys := by
  apply List.ext_getElem hl
  intro i h1 h2
  have := h i h1
  simp [lat, gat, h1, h2] at this
  exact Prod.ext this.1 this.2

/-- A slice of pairs: nil, or it leads to cells that hold them. -/
structure Pw (w : World) (a : Option Addr) (n cap : Nat) (xs : List (ByteArray × ByteArray)) : Prop where
  len : xs.length = n
  le : n ≤ cap
  mx : cap ≤ maxLen
  nil : a = none → n = 0 ∧ cap = 0
  at' : 0 < n → ∃ b off, a = some ⟨b, off, none⟩ ∧ b < w.heap.size ∧ ∀ i, i < n → w.cell? ⟨b, off + i * 2, none⟩ = some (.string (lat xs i)) ∧ w.cell? ⟨b, off + i * 2 + 1, none⟩ = some (.string (gat xs i))
theorem Pw.below {w w' : World} {a : Option Addr} {n cap : Nat} {xs : List (ByteArray × ByteArray)} (h : Pw w a n cap xs) (hb : Below w.heap.size w w') : Pw w' a n cap xs :=
  ⟨h.len, h.le, h.mx, h.nil, fun hn => by
    obtain ⟨b, off, rfl, hlt, hc⟩ := h.at' hn
    exact ⟨b, off, rfl, Nat.lt_of_lt_of_le hlt hb.size, fun i hi => ⟨by rw [hb.cell (p := ⟨b, off + i * 2, none⟩) hlt]; exact (hc i hi).1, by rw [hb.cell (p := ⟨b, off + i * 2 + 1, none⟩) hlt]; exact (hc i hi).2⟩⟩⟩
/-- The first pairs of a slice. -/
theorem Pw.first {w : World} {a : Option Addr} {n cap : Nat} {xs : List (ByteArray × ByteArray)} (h : Pw w a n cap xs) (m : Nat) (hm : m ≤ n) : Pw w a m cap (xs.take m) :=
  ⟨by rw [List.length_take, h.len]; omega, Nat.le_trans hm h.le, h.mx, fun e => ⟨by have := (h.nil e).1; omega, (h.nil e).2⟩, fun h0 => by
    obtain ⟨b, off, e, hlt, hc⟩ := h.at' (by omega)
    refine ⟨b, off, e, hlt, fun i hi => ?_⟩
    have q := hc i (by omega)
    have e1 : (xs.take m).getD i (⟨#[]⟩, ⟨#[]⟩) = xs.getD i (⟨#[]⟩, ⟨#[]⟩) := by simp [List.getD_eq_getElem?_getD, hi]
    unfold lat gat at q ⊢
    rw [e1]
    exact q⟩
/-- No pairs. -/
theorem Pw.none (w : World) (c : Nat) (a : Option Addr) (hc : c ≤ maxLen) (h : a = .none → c = 0) : Pw w a 0 c [] :=
  ⟨rfl, Nat.zero_le _, hc, fun e => ⟨rfl, h e⟩, fun h => absurd h (by omega)⟩
/-- A row of the call's own as a slice of pairs. -/
theorem Pw.ofOwn {w : World} {base : Nat} {e : TypeId} {v : Value} {n : Nat} {xs : List (ByteArray × ByteArray)} (h : w.ownsRow base e 2 v n (pv xs)) : ∃ a cap, v = .slice a n cap ∧ Pw w a n cap xs := by
  obtain ⟨hl, h⟩ := h
  rw [pv_length] at hl
  rcases h with ⟨rfl, rfl⟩ | ⟨g, cap, cur, rfl, hb, hg, hn, hm, hs, ht⟩
  · exact ⟨_, 0, rfl, by omega, by omega, Nat.zero_le _, fun _ => ⟨rfl, rfl⟩, fun h => absurd h (by omega)⟩
  · refine ⟨_, cap, rfl, by omega, hn, hm, fun h => absurd h (by simp), fun h0 => ⟨g, 0, rfl, (Array.getElem?_eq_some_iff.1 hg).1, fun i hi => ?_⟩⟩
    have key : ∀ j x, (pv xs)[j]? = some x → w.cell? ⟨g, 0 + j, .none⟩ = some x := fun j x hj => by
      have hj' : j < n * 2 := by
        have := (List.getElem?_eq_some_iff.1 hj).1
        rw [pv_length] at this
        omega
      rw [← ht, List.getElem?_take_of_lt hj'] at hj
      have e2 : cur[j]? = some x := by simpa using hj
      simp [World.cell?, hg, e2]
    have q := pv_get xs i (by omega)
    exact ⟨key _ _ q.1, key _ _ q.2⟩
theorem Pw.ofOwn' {w : World} {base : Nat} {e : TypeId} {a : Option Addr} {n cap : Nat} {xs : List (ByteArray × ByteArray)} (h : w.ownsRow base e 2 (.slice a n cap) n (pv xs)) : Pw w a n cap xs := by
  obtain ⟨a2, c2, e2, h2⟩ := Pw.ofOwn h
  cases e2
  exact h2
/-- One pair that was just laid, as a slice. -/
theorem Pw.one {w : World} (t : ByteArray) (k : ByteArray) (ty : TypeId) (b : Nat) (hb : b = w.heap.size) : Pw (w.alloc (.cells #[.string t, .string k] ty)) (some ⟨b, 0, .none⟩) 1 1 [(t, k)] := by
  subst hb
  refine ⟨rfl, Nat.le_refl _, by decide, fun e => absurd e (by simp), fun _ => ⟨w.heap.size, 0, rfl, by simp, fun i hi => ?_⟩⟩
  obtain rfl : i = 0 := by omega
  exact ⟨by simp [lat], by simp [gat]⟩
/-- One pair that was just laid, as what is appended. -/
theorem src_pair {w : World} (t : ByteArray) (k : ByteArray) (ty : TypeId) : Src (w.alloc (.cells #[.string t, .string k] ty)) (some ⟨w.heap.size, 0, none⟩) 1 1 2 [.string t, .string k] :=
  Src.new #[.string t, .string k] ty w.heap.size rfl rfl (fun u hu => by simp at hu; rcases hu with rfl | rfl <;> rfl)
end Go.Proofs.Ytcjakjmhghoilaa

/-
  A block of three cells (a struct's), as it lies and as it is written; merges in memory: four numbers each; a vocabulary in memory. No program is named here.
-/
namespace Go.Proofs.Ytcjakjmhghoilaa
open Go.RowKit

def Bx3 (W : World) (B : Nat) (t : TypeId) (x y z : Value) : Prop := W.heap[B]? = some (.cells #[x, y, z] t (0, 0))
section
variable {W : World} {B : Nat} {t : TypeId} {x y z : Value}
theorem Bx3.lt (h : Bx3 W B t x y z) : B < W.heap.size := (Array.getElem?_eq_some_iff.1 h).1
theorem Bx3.cell0 (h : Bx3 W B t x y z) : W.cell? ⟨B, 0, none⟩ = some x := by simp [World.cell?, show W.heap[B]? = _ from h]
theorem Bx3.cell1 (h : Bx3 W B t x y z) : W.cell? ⟨B, 1, none⟩ = some y := by simp [World.cell?, show W.heap[B]? = _ from h]
theorem Bx3.cell2 (h : Bx3 W B t x y z) : W.cell? ⟨B, 2, none⟩ = some z := by simp [World.cell?, show W.heap[B]? = _ from h]
theorem Bx3.fr (h : Bx3 W B t x y z) (j : Nat) : W.frozen? ⟨B, j, none⟩ = false := by simp [World.frozen?, show W.heap[B]? = _ from h]
theorem Bx3.new (W : World) (t : TypeId) (x y z : Value) : Bx3 (W.alloc (.cells #[x, y, z] t)) W.heap.size t x y z := World.alloc_heap_new W _
theorem Bx3.below {W' : World} {n : Nat} (h : Bx3 W B t x y z) (hb : Below n W W') (hn : B < n) : Bx3 W' B t x y z := (hb.block B hn).trans h
theorem Bx3.alloc (h : Bx3 W B t x y z) (o : Obj) : Bx3 (W.alloc o) B t x y z := (Below.heap_alloc _ _ _ h.lt).trans h
theorem Bx3.kept {W' : World} {row : Option Nat} (h : Bx3 W B t x y z) (hg : W.grownBy W' row) (hne : some B ≠ row) : Bx3 W' B t x y z := (hg.block B h.lt hne).trans h
theorem Bx3.mut {W' : World} {S : Nat → Prop} (h : Bx3 W B t x y z) (hm : Mut S W W') (hn : ¬ S B) : Bx3 W' B t x y z := (hm.block B h.lt hn).trans h
theorem Bx3.drew (h : Bx3 W B t x y z) : Bx3 W.drew B t x y z := h
theorem Bx3.other {D j : Nat} (h : Bx3 W B t x y z) (hne : B ≠ D) (v : Value) : Bx3 (W.setCell ⟨D, j, none⟩ v) B t x y z :=
  (Below.heap_setCell _ _ _ _ (by simpa using hne)).trans h
theorem Bx3.set0 (h : Bx3 W B t x y z) (v : Value) : Bx3 (W.setCell ⟨B, 0, none⟩ v) B t v y z := by
  obtain ⟨hlt, hk⟩ := Array.getElem?_eq_some_iff.1 h
  show (W.heap.modify B _)[B]? = _
  rw [Array.getElem?_eq_getElem (by rw [Array.size_modify]; exact hlt), Array.getElem_modify_self, hk]
  rfl
theorem Bx3.set1 (h : Bx3 W B t x y z) (v : Value) : Bx3 (W.setCell ⟨B, 1, none⟩ v) B t x v z := by
  obtain ⟨hlt, hk⟩ := Array.getElem?_eq_some_iff.1 h
  show (W.heap.modify B _)[B]? = _
  rw [Array.getElem?_eq_getElem (by rw [Array.size_modify]; exact hlt), Array.getElem_modify_self, hk]
  rfl
theorem Bx3.set2 (h : Bx3 W B t x y z) (v : Value) : Bx3 (W.setCell ⟨B, 2, none⟩ v) B t x y v := by
  obtain ⟨hlt, hk⟩ := Array.getElem?_eq_some_iff.1 h
  show (W.heap.modify B _)[B]? = _
  rw [Array.getElem?_eq_getElem (by rw [Array.size_modify]; exact hlt), Array.getElem_modify_self, hk]
  rfl
end
/-- All three cells of a block written. -/
def three (W : World) (R : Nat) (x y z : Value) : World := ((W.setCell ⟨R, 0, none⟩ x).setCell ⟨R, 1, none⟩ y).setCell ⟨R, 2, none⟩ z
theorem Bx3.three {W : World} {B : Nat} {t : TypeId} {a b c : Value} (h : Bx3 W B t a b c) (x y z : Value) : Bx3 (three W B x y z) B t x y z := ((h.set0 x).set1 y).set2 z
theorem below_three {w W : World} {n R : Nat} (h : Below n w W) (hR : n ≤ R) (x y z : Value) : Below n w (three W R x y z) :=
  ((h.setCell (p := ⟨R, 0, none⟩) hR x).setCell (p := ⟨R, 1, none⟩) hR y).setCell (p := ⟨R, 2, none⟩) hR z

/-- A merge: left, right, out, order. -/
abbrev Mg4 := Int × Int × Int × Int
def mv (xs : List Mg4) : List Value := xs.flatMap fun x => [.int .i64 x.1, .int .i64 x.2.1, .int .i64 x.2.2.1, .int .i64 x.2.2.2]
theorem mv_length (xs : List Mg4) : (mv xs).length = xs.length * 4 := by
  induction xs with
  | nil => rfl
  | cons x xs ih => simp only [mv, List.flatMap_cons, List.length_append, List.length_cons, List.length_nil] at ih ⊢; omega
theorem mv_append (xs ys : List Mg4) : mv xs ++ mv ys = mv (xs ++ ys) := by simp [mv]
theorem mv_one (xs : List Mg4) : ∀ u ∈ mv xs, u.oneCell' = true := by
  intro u hu
  simp only [mv, List.mem_flatMap] at hu
  obtain ⟨i, _, hi⟩ := hu
  simp at hi
  rcases hi with rfl | rfl | rfl | rfl <;> rfl
/-- The merge at a place. -/
def mat (xs : List Mg4) (i : Nat) : Mg4 := xs.getD i (0, 0, 0, 0)
theorem mv_get : ∀ (xs : List Mg4) (i : Nat), i < xs.length → (mv xs)[i * 4]? = some (.int .i64 (mat xs i).1) ∧ (mv xs)[i * 4 + 1]? = some (.int .i64 (mat xs i).2.1) ∧ (mv xs)[i * 4 + 2]? = some (.int .i64 (mat xs i).2.2.1) ∧ (mv xs)[i * 4 + 3]? = some (.int .i64 (mat xs i).2.2.2)
  | [], i, h => by simp at h
  | x :: xs, 0, h => ⟨rfl, rfl, rfl, rfl⟩
  | x :: xs, i + 1, h => by
    have ih := mv_get xs i (by simpa using h)
    have e1 : (i + 1) * 4 = i * 4 + 1 + 1 + 1 + 1 := by omega
    rw [e1]
    exact ih
theorem mv_inv {xs : List Mg4} {j : Nat} {u : Value} (h : (mv xs)[j]? = some u) : ∃ i, i < xs.length ∧ ((j = i * 4 ∧ u = .int .i64 (mat xs i).1) ∨ (j = i * 4 + 1 ∧ u = .int .i64 (mat xs i).2.1) ∨ (j = i * 4 + 2 ∧ u = .int .i64 (mat xs i).2.2.1) ∨ (j = i * 4 + 3 ∧ u = .int .i64 (mat xs i).2.2.2)) := by
  have hj : j < xs.length * 4 := by
    have := (List.getElem?_eq_some_iff.1 h).1
    rwa [mv_length] at this
  obtain ⟨e0, e1, e2, e3⟩ := mv_get xs (j / 4) (by omega)
  refine ⟨j / 4, by omega, ?_⟩
  obtain h3 | h3 | h3 | h3 : j = j / 4 * 4 ∨ j = j / 4 * 4 + 1 ∨ j = j / 4 * 4 + 2 ∨ j = j / 4 * 4 + 3 := by omega
  · rw [← h3] at e0; rw [e0] at h; exact .inl ⟨h3, (Option.some.inj h).symm⟩
  · rw [← h3] at e1; rw [e1] at h; exact .inr (.inl ⟨h3, (Option.some.inj h).symm⟩)
  · rw [← h3] at e2; rw [e2] at h; exact .inr (.inr (.inl ⟨h3, (Option.some.inj h).symm⟩))
  · rw [← h3] at e3; rw [e3] at h; exact .inr (.inr (.inr ⟨h3, (Option.some.inj h).symm⟩))
theorem mat_ext {xs ys : List Mg4} (hl : xs.length = ys.length) (h : ∀ i, i < xs.length → mat xs i = mat ys i) : xs = ys := by
  apply List.ext_getElem hl
  intro i h1 h2
  have := h i h1
  simpa [mat, h1, h2] using this
theorem mat_mem {xs : List Mg4} {i : Nat} (h : i < xs.length) : mat xs i ∈ xs := by
  have : mat xs i = xs[i] := by simp [mat, h]
  rw [this]; exact List.getElem_mem h
theorem mem_mat {xs : List Mg4} {x : Mg4} (h : x ∈ xs) : ∃ i, i < xs.length ∧ mat xs i = x := by
  obtain ⟨i, hi, e⟩ := List.mem_iff_getElem.1 h
  exact ⟨i, hi, by simp [mat, hi, e]⟩

/-- A slice of merges: nil, or it leads to cells that hold them. -/
structure Qw (w : World) (a : Option Addr) (n cap : Nat) (xs : List Mg4) : Prop where
  len : xs.length = n
  le : n ≤ cap
  mx : cap ≤ maxLen
  nil : a = none → n = 0 ∧ cap = 0
  at' : 0 < n → ∃ b off, a = some ⟨b, off, none⟩ ∧ b < w.heap.size ∧ ∀ i, i < n → w.cell? ⟨b, off + i * 4, none⟩ = some (.int .i64 (mat xs i).1) ∧ w.cell? ⟨b, off + i * 4 + 1, none⟩ = some (.int .i64 (mat xs i).2.1) ∧ w.cell? ⟨b, off + i * 4 + 2, none⟩ = some (.int .i64 (mat xs i).2.2.1) ∧ w.cell? ⟨b, off + i * 4 + 3, none⟩ = some (.int .i64 (mat xs i).2.2.2)
theorem Qw.below {w w' : World} {a : Option Addr} {n cap : Nat} {xs : List Mg4} (h : Qw w a n cap xs) (hb : Below w.heap.size w w') : Qw w' a n cap xs :=
  ⟨h.len, h.le, h.mx, h.nil, fun hn => by
    obtain ⟨b, off, rfl, hlt, hc⟩ := h.at' hn
    refine ⟨b, off, rfl, Nat.lt_of_lt_of_le hlt hb.size, fun i hi => ?_⟩
    obtain ⟨c0, c1, c2, c3⟩ := hc i hi
    refine ⟨?_, ?_, ?_, ?_⟩
    · rw [hb.cell (p := ⟨b, off + i * 4, none⟩) hlt]; exact c0
    · rw [hb.cell (p := ⟨b, off + i * 4 + 1, none⟩) hlt]; exact c1
    · rw [hb.cell (p := ⟨b, off + i * 4 + 2, none⟩) hlt]; exact c2
    · rw [hb.cell (p := ⟨b, off + i * 4 + 3, none⟩) hlt]; exact c3⟩
theorem Qw.first {w : World} {a : Option Addr} {n cap : Nat} {xs : List Mg4} (h : Qw w a n cap xs) (m : Nat) (hm : m ≤ n) : Qw w a m cap (xs.take m) :=
  ⟨by rw [List.length_take, h.len]; omega, Nat.le_trans hm h.le, h.mx, fun e => ⟨by have := (h.nil e).1; omega, (h.nil e).2⟩, fun h0 => by
    obtain ⟨b, off, e, hlt, hc⟩ := h.at' (by omega)
    refine ⟨b, off, e, hlt, fun i hi => ?_⟩
    have q := hc i (by omega)
    have e1 : mat (xs.take m) i = mat xs i := by simp [mat, List.getD_eq_getElem?_getD, hi]
    rw [e1]
    exact q⟩
theorem Qw.none (w : World) (c : Nat) (a : Option Addr) (hc : c ≤ maxLen) (h : a = .none → c = 0) : Qw w a 0 c [] :=
  ⟨rfl, Nat.zero_le _, hc, fun e => ⟨rfl, h e⟩, fun h => absurd h (by omega)⟩
theorem Qw.ofOwn {w : World} {base : Nat} {e : TypeId} {v : Value} {n : Nat} {xs : List Mg4} (h : w.ownsRow base e 4 v n (mv xs)) : ∃ a cap, v = .slice a n cap ∧ Qw w a n cap xs := by
  obtain ⟨hl, h⟩ := h
  rw [mv_length] at hl
  rcases h with ⟨rfl, rfl⟩ | ⟨g, cap, cur, rfl, hb, hg, hn, hm, hs, ht⟩
  · exact ⟨_, 0, rfl, by omega, by omega, Nat.zero_le _, fun _ => ⟨rfl, rfl⟩, fun h => absurd h (by omega)⟩
  · refine ⟨_, cap, rfl, by omega, hn, hm, fun h => absurd h (by simp), fun h0 => ⟨g, 0, rfl, (Array.getElem?_eq_some_iff.1 hg).1, fun i hi => ?_⟩⟩
    have key : ∀ j x, (mv xs)[j]? = some x → w.cell? ⟨g, 0 + j, .none⟩ = some x := fun j x hj => by
      have hj' : j < n * 4 := by
        have := (List.getElem?_eq_some_iff.1 hj).1
        rw [mv_length] at this
        omega
      rw [← ht, List.getElem?_take_of_lt hj'] at hj
      have e2 : cur[j]? = some x := by simpa using hj
      simp [World.cell?, hg, e2]
    have q := mv_get xs i (by omega)
    exact ⟨key _ _ q.1, key _ _ q.2.1, key _ _ q.2.2.1, key _ _ q.2.2.2⟩
theorem Qw.ofOwn' {w : World} {base : Nat} {e : TypeId} {a : Option Addr} {n cap : Nat} {xs : List Mg4} (h : w.ownsRow base e 4 (.slice a n cap) n (mv xs)) : Qw w a n cap xs := by
  obtain ⟨a2, c2, e2, h2⟩ := Qw.ofOwn h
  cases e2
  exact h2
theorem src_merge {w : World} (l r o d : Int) (ty : TypeId) : Src (w.alloc (.cells #[.int .i64 l, .int .i64 r, .int .i64 o, .int .i64 d] ty)) (some ⟨w.heap.size, 0, none⟩) 1 1 4 [.int .i64 l, .int .i64 r, .int .i64 o, .int .i64 d] :=
  Src.new #[.int .i64 l, .int .i64 r, .int .i64 o, .int .i64 d] ty w.heap.size rfl rfl (fun u hu => by simp at hu; rcases hu with rfl | rfl | rfl | rfl <;> rfl)
theorem mv_snoc (xs : List Mg4) (l r o d : Int) : mv xs ++ [.int .i64 l, .int .i64 r, .int .i64 o, .int .i64 d] = mv (xs ++ [(l, r, o, d)]) := by rw [← mv_append]; rfl

/-- A vocabulary in memory: its tokens, merges, specials. -/
structure Vo (w : World) (a : Option Addr) (n c : Nat) (am : Option Addr) (nm cm : Nat) (az : Option Addr) (ns cs : Nat) (ts : List ByteArray) (ms : List Mg4) (sp : List (ByteArray × Int)) : Prop where
  T : Ts w a n c ts
  M : Qw w am nm cm ms
  S : Rw w az ns cs sp
theorem Vo.below {w w' : World} {a : Option Addr} {n c : Nat} {am : Option Addr} {nm cm : Nat} {az : Option Addr} {ns cs : Nat} {ts : List ByteArray} {ms : List Mg4} {sp : List (ByteArray × Int)} (h : Vo w a n c am nm cm az ns cs ts ms sp) (hb : Below w.heap.size w w') : Vo w' a n c am nm cm az ns cs ts ms sp :=
  ⟨h.T.below hb, h.M.below hb, h.S.below hb⟩
theorem tok_mem {ts : List ByteArray} {i : Nat} (h : i < ts.length) : at_ ts i ∈ ts := by
  have : at_ ts i = ts[i] := by simp [at_, h]
  rw [this]; exact List.getElem_mem h
theorem mem_tok {ts : List ByteArray} {x : ByteArray} (h : x ∈ ts) : ∃ i, i < ts.length ∧ at_ ts i = x := by
  obtain ⟨i, hi, e⟩ := List.mem_iff_getElem.1 h
  exact ⟨i, hi, by simp [at_, hi, e]⟩
theorem row_mem {xs : List (ByteArray × Int)} {i : Nat} (h : i < xs.length) : (tat xs i, kat xs i) ∈ xs := by
  have : (tat xs i, kat xs i) = xs[i] := by simp [tat, kat, h]
  rw [this]; exact List.getElem_mem h
theorem mem_row {xs : List (ByteArray × Int)} {x : ByteArray × Int} (h : x ∈ xs) : ∃ i, i < xs.length ∧ tat xs i = x.1 ∧ kat xs i = x.2 := by
  obtain ⟨i, hi, e⟩ := List.mem_iff_getElem.1 h
  exact ⟨i, hi, by simp [tat, hi, e], by simp [kat, hi, e]⟩
end Go.Proofs.Ytcjakjmhghoilaa

/-
  What the chapter says of vocabularies, in plain mathematics: which may be. No program is named here.
-/
namespace Go.Proofs.Ytcjakjmhghoilaa
open Go.RowKit

theorem ba_empty {s : ByteArray} (h : s.size = 0) : s.toList.isEmpty = true ∧ s.toList = [] := by
  have : s.toList = [] := List.eq_nil_of_length_eq_zero (by rw [by_toList, by_length]; exact h)
  exact ⟨by rw [this]; rfl, this⟩
theorem ba_full {s : ByteArray} (h : s.size ≠ 0) : s.toList.isEmpty = false ∧ ¬ s.toList = [] := by
  have : ¬ s.toList = [] := fun e => h (by rw [← by_length, ← by_toList, e]; rfl)
  exact ⟨by simpa using this, this⟩
theorem ba_nil {s : ByteArray} (h : s.size = 0) : s = ⟨#[]⟩ := by
  apply by_inj
  have : (by_ s).length = 0 := by rw [by_length]; exact h
  rw [List.eq_nil_of_length_eq_zero this]; rfl
theorem ba_eq {s t : ByteArray} (h : s.toList = t.toList) : s = t := by
  rw [by_toList, by_toList] at h; exact by_inj h

namespace Vc
abbrev Toks := List ByteArray
abbrev Sps := List (ByteArray × Int)
/-- The number of a token that isn't empty. -/
def Is (ts : Toks) (k : Int) : Prop := 0 ≤ k ∧ k < ts.length ∧ (at_ ts k.toNat).size ≠ 0
def tok (ts : Toks) (k : Int) : ByteArray := at_ ts k.toNat
/-- The place of an empty token. -/
def Emp (ts : Toks) (k : Int) : Prop := 0 ≤ k ∧ k < ts.length ∧ (at_ ts k.toNat).size = 0
/-- A number that may be. -/
def Num (k : Int) : Prop := 0 ≤ k ∧ k < 4096
/-- A byte alone. -/
def one (b : Nat) : ByteArray := mk [UInt8.ofNat b]
/-- Rule 1. -/
structure MayT (ts : Toks) : Prop where
  len : ts.length ≤ 4096
  sz : ∀ i, i < ts.length → (at_ ts i).size ≤ 64
  apart : ∀ i j, i < ts.length → j < ts.length → (at_ ts i).size ≠ 0 → at_ ts i = at_ ts j → i = j
  all : ∀ b, b < 256 → ∃ i, i < ts.length ∧ at_ ts i = one b
/-- A merge, for itself. -/
def OkM (ts : Toks) (m : Mg4) : Prop := Is ts m.1 ∧ Is ts m.2.1 ∧ Is ts m.2.2.1 ∧ tok ts m.2.2.1 = tok ts m.1 ++ tok ts m.2.1 ∧ 0 ≤ m.2.2.2 ∧ m.2.2.2 ≤ 1048576
/-- One merge ahead of another one. -/
def Ahead (a b : Mg4) : Prop := a.2.2.2 < b.2.2.2 ∨ (a.2.2.2 = b.2.2.2 ∧ (a.1 < b.1 ∨ (a.1 = b.1 ∧ a.2.1 < b.2.1)))
/-- Two merges beside each other. -/
def Both (a b : Mg4) : Prop := Ahead a b ∧ ¬ (a.1 = b.1 ∧ a.2.1 = b.2.1) ∧ (a.2.2.2 = b.2.2.2 → a.2.2.1 = b.2.2.1)
/-- A merge that may stand right behind another one. -/
def Fol (a b : Mg4) : Prop := Ahead a b ∧ (a.2.2.2 = b.2.2.2 → a.2.2.1 = b.2.2.1)
/-- Rule 2. -/
structure MayM (ts : Toks) (ms : List Mg4) : Prop where
  len : ms.length ≤ 16384
  ok : ∀ i, i < ms.length → OkM ts (mat ms i)
  both : ∀ i j, i < j → j < ms.length → Both (mat ms i) (mat ms j)
/-- Rule 3. -/
def Made (ts : Toks) (ms : List Mg4) : Prop := ∀ i, i < ts.length → (at_ ts i).size < 2 ∨ ∃ k, k < ms.length ∧ (mat ms k).2.2.1 = i
def SignOk (x : Int) : Prop := (97 ≤ x ∧ x ≤ 122) ∨ (48 ≤ x ∧ x ≤ 57) ∨ x = 95
def NameOk (s : ByteArray) : Prop := 1 ≤ s.size ∧ s.size ≤ 24 ∧ ∀ i, i < s.size → SignOk (bytesF s i)
def NLt (a b : ByteArray) : Prop := by_ a < by_ b
/-- Rule 4. -/
structure MayS (ts : Toks) (sp : Sps) : Prop where
  len : sp.length ≤ 16
  ok : ∀ i, i < sp.length → NameOk (tat sp i) ∧ Emp ts (kat sp i)
  both : ∀ i j, i < j → j < sp.length → NLt (tat sp i) (tat sp j) ∧ kat sp i ≠ kat sp j
structure May (ts : Toks) (ms : List Mg4) (sp : Sps) : Prop where
  T : MayT ts
  M : MayM ts ms
  O : Made ts ms
  S : MayS ts sp

/-! ### How merges are compared -/
def orI (a b : Int) : Int := if a = 0 then b else a
def cmpI (x y : Int) : Int := if x < y then -1 else if y < x then 1 else 0
def cmp (a b : Mg4) : Int := orI (cmpI a.2.2.2 b.2.2.2) (orI (cmpI a.1 b.1) (cmpI a.2.1 b.2.1))
theorem cmpI_lt (x y : Int) : cmpI x y < 0 ↔ x < y := by
  unfold cmpI
  by_cases h : x < y
  · simp [h]
  · by_cases k : y < x <;> simp [h, k]
theorem cmpI_eq (x y : Int) : cmpI x y = 0 ↔ x = y := by
  unfold cmpI
  by_cases h : x < y
  · simp [h]; omega
  · by_cases k : y < x <;> simp [h, k] <;> omega
theorem orI_lt (a b : Int) : orI a b < 0 ↔ a < 0 ∨ (a = 0 ∧ b < 0) := by
  unfold orI
  by_cases h : a = 0 <;> simp [h]
theorem cmp_lt (a b : Mg4) : cmp a b < 0 ↔ Ahead a b := by
  unfold cmp Ahead
  rw [orI_lt, orI_lt, cmpI_lt, cmpI_lt, cmpI_lt, cmpI_eq, cmpI_eq]
theorem Ahead.trans {a b c : Mg4} (h : Ahead a b) (k : Ahead b c) : Ahead a c := by unfold Ahead at *; omega
theorem Ahead.irrefl (a : Mg4) : ¬ Ahead a a := by unfold Ahead; omega
theorem Ahead.total (a b : Mg4) : Ahead a b ∨ Ahead b a ∨ (a.1 = b.1 ∧ a.2.1 = b.2.1 ∧ a.2.2.2 = b.2.2.2) := by unfold Ahead; omega
end Vc
end Go.Proofs.Ytcjakjmhghoilaa

/-
  Rows of values of one cell each, told by a function: 'make', reading, writing. No program is named here.
-/
namespace Go.Proofs.Ytcjakjmhghoilaa
open Go.RowKit

def vr (f : Nat → Value) (n : Nat) : List Value := (List.range n).map f
theorem vr_length (f : Nat → Value) (n : Nat) : (vr f n).length = n := by simp [vr]
theorem vr_get (f : Nat → Value) (n i : Nat) (h : i < n) : (vr f n)[i]? = some (f i) := by simp [vr, h]
def upd (f : Nat → Value) (i : Nat) (v : Value) : Nat → Value := fun k => if k = i then v else f k
theorem vr_set (f : Nat → Value) (n i : Nat) (v : Value) : (vr f n).set i v = vr (upd f i v) n := by
  apply List.ext_getElem?
  intro k
  by_cases hk : k < n
  · rw [vr_get _ _ _ hk, List.getElem?_set]
    by_cases h : i = k
    · subst h; simp [upd, vr_length, hk]
    · rw [if_neg h, vr_get _ _ _ hk]; simp [upd, Ne.symm h]
  · rw [List.getElem?_eq_none (by simp [vr_length]; omega), List.getElem?_eq_none (by simp [vr_length]; omega)]
/-- A row of n things in a block. -/
def Vr (w : World) (b n : Nat) (e : TypeId) (f : Nat → Value) : Prop := w.heap[b]? = some (.cells (vr f n).toArray e (0, 0))
section
variable {W W' : World} {b n : Nat} {e : TypeId} {f : Nat → Value}
theorem Vr.lt (h : Vr W b n e f) : b < W.heap.size := (Array.getElem?_eq_some_iff.1 h).1
theorem Vr.cell (h : Vr W b n e f) {i : Nat} (hi : i < n) : W.cell? ⟨b, i, none⟩ = some (f i) := by
  simp [World.cell?, show W.heap[b]? = _ from h, vr_get _ _ _ hi]
theorem Vr.fr (h : Vr W b n e f) (j : Nat) : W.frozen? ⟨b, j, none⟩ = false := by simp [World.frozen?, show W.heap[b]? = _ from h]
theorem Vr.below {N : Nat} (h : Vr W b n e f) (hb : Below N W W') (hn : b < N) : Vr W' b n e f := (hb.block b hn).trans h
theorem Vr.alloc (h : Vr W b n e f) (o : Obj) : Vr (W.alloc o) b n e f := (Below.heap_alloc _ _ _ h.lt).trans h
theorem Vr.drew (h : Vr W b n e f) : Vr W.drew b n e f := h
theorem Vr.mut {S : Nat → Prop} (h : Vr W b n e f) (hm : Mut S W W') (hn : ¬ S b) : Vr W' b n e f := (hm.block b h.lt hn).trans h
theorem Vr.other {D j : Nat} (h : Vr W b n e f) (hne : b ≠ D) (v : Value) : Vr (W.setCell ⟨D, j, none⟩ v) b n e f :=
  (Below.heap_setCell _ _ _ _ (by simpa using hne)).trans h
theorem Vr.set (h : Vr W b n e f) (i : Nat) (v : Value) : Vr (W.setCell ⟨b, i, none⟩ v) b n e (upd f i v) := by
  obtain ⟨hlt, hk⟩ := Array.getElem?_eq_some_iff.1 h
  unfold Vr
  rw [← vr_set]
  show (W.setCell ⟨b, i, none⟩ v).heap[b]? = _
  rw [World.setCell, Array.getElem?_modify, if_pos rfl, show W.heap[b]? = _ from h]
  simp
theorem Vr.congr {g : Nat → Value} (h : Vr W b n e f) (hg : ∀ i, i < n → f i = g i) : Vr W b n e g := by
  have : vr f n = vr g n := by
    unfold vr
    apply List.map_congr_left
    intro i hi
    exact hg i (List.mem_range.1 hi)
  unfold Vr at h ⊢
  rw [h, this]
end
theorem made_vr (z : Value) (hz : z.cells = #[z]) (n : Nat) : madeCells z.cells (n * 1) = (vr (fun _ => z) n).toArray := by
  apply Array.toList_inj.1
  have h : (madeCells z.cells (n * 1)).toList = List.replicate n z := by rw [Nat.mul_one, hz]; exact toList_madeCells_one _ n
  rw [h]
  apply List.ext_getElem?
  intro i
  by_cases hi : i < n
  · simp [hi, vr]
  · simp [hi, vr]
theorem run_make_vr {P : Program} (w : World) (z : Value) (t e : TypeId) (i : TypeInfo) (ht : P.underlying t = some (.slice e)) (hi : P.info? e = some i) (hz : i.zero = some z) (hc : z.cells = #[z]) (hsize : i.size = 1) (hby : i.bytes ≤ 16)
    (n : Nat) (hn : n ≤ 1048576) : (Instr.makeSlice t (.int .i64 (n : Int)) (.int .i64 (n : Int))).run P w = .ok (.slice (some ⟨w.heap.size, 0, none⟩) n n) (w.alloc (.cells (vr (fun _ => z) n).toArray e)) := by
  have hb : (i.bytes : Int) * (n : Int) ≤ 281474976710656 := by
    have h1 : i.bytes * n ≤ 16 * 1048576 := Nat.mul_le_mul hby hn
    have h2 : ((i.bytes * n : Nat) : Int) ≤ 281474976710656 := by omega
    rwa [Int.natCast_mul] at h2
  have hr := run_make (P := P) w t e i _ ht hi hz .i64 .i64 n n (by omega) (Int.le_refl _) hb (by omega)
  simp only [Int.toNat_natCast, hsize] at hr
  rw [hr, made_vr z hc]
theorem wpList_make_vr {P : Program} {w : World} {ops : Array Oper} {rest : List Oper} {o : Oper} {a : Act} {Q : Exit → Act → World → Prop} (hg : o.guard = none) (l c : Operand) (t : TypeId) (hop : o.op = Op.makeSlice t l c)
    (z : Value) (e : TypeId) (i : TypeInfo) (ht : P.underlying t = some (.slice e)) (hi : P.info? e = some i) (hz : i.zero = some z) (hzc : z.cells = #[z]) (hsize : i.size = 1) (hby : i.bytes ≤ 16)
    (n : Nat) (hn : n ≤ 1048576) (hl : a.eval l = .int .i64 (n : Int)) (hc : a.eval c = .int .i64 (n : Int))
    (hK : ∀ w', Hid (Vr w' w.heap.size n e (fun _ => z)) → Hid (Below w.heap.size w w') → Hid (w'.heap.size = w.heap.size + 1) → wpList P ops Q rest (a.put o.dst (.slice (some ⟨w.heap.size, 0, none⟩) n n)) w') : wpList P ops Q (o :: rest) a w := by
  refine wpList_plain hg fun K' hK' => ?_
  have hrun := run_make_vr (P := P) w z t e i ht hi hz hzc hsize hby n hn
  unfold Oper.wp
  simp [execOp, hop, hl, hc, hrun, Result.andThen]
  exact hK' _ _ (hK _ (hid (heap_alloc_new w _)) (hid ((Below.refl _ _).alloc (Nat.le_refl _) _)) (hid (by simp)))
end Go.Proofs.Ytcjakjmhghoilaa

/-
  The numbers of tokens by their bytes, as a map holds them. No program is named here.
-/
namespace Go.Proofs.Ytcjakjmhghoilaa
open Go.RowKit Go.Maps

namespace Vc
/-- The last of the first j places with such bytes. -/
def lastOf (ts : Toks) : Nat → ByteArray → Option Nat
  | 0, _ => none
  | j + 1, s => if at_ ts j = s ∧ s.size ≠ 0 then some j else lastOf ts j s
theorem lastOf_some {ts : Toks} : ∀ {j : Nat} {s : ByteArray} {k : Nat}, lastOf ts j s = some k → k < j ∧ at_ ts k = s ∧ s.size ≠ 0
  | 0, s, k, h => by simp [lastOf] at h
  | j + 1, s, k, h => by
    unfold lastOf at h
    by_cases hc : at_ ts j = s ∧ s.size ≠ 0
    · rw [if_pos hc] at h
      obtain rfl := Option.some.inj h
      exact ⟨Nat.lt_succ_self _, hc⟩
    · rw [if_neg hc] at h
      have := lastOf_some h
      exact ⟨by omega, this.2⟩
theorem lastOf_has {ts : Toks} : ∀ {j i : Nat}, i < j → (at_ ts i).size ≠ 0 → ∃ k, lastOf ts j (at_ ts i) = some k ∧ i ≤ k
  | 0, i, h, _ => absurd h (Nat.not_lt_zero _)
  | j + 1, i, h, hz => by
    unfold lastOf
    by_cases hc : at_ ts j = at_ ts i ∧ (at_ ts i).size ≠ 0
    · exact ⟨j, by rw [if_pos hc], by omega⟩
    · rw [if_neg hc]
      have hij : i ≠ j := fun e => hc ⟨by rw [e], hz⟩
      exact lastOf_has (by omega) hz
abbrev key (s : ByteArray) : Lit := .string s.data.toList
theorem key_inj {s t : ByteArray} (h : key s = key t) : s = t := by
  have h1 : s.data.toList = t.data.toList := by simpa using h
  have h2 : s.data = t.data := Array.toList_inj.1 h1
  cases s; cases t; simpa using h2
/-- What a map says of the first j tokens. -/
def Nm (ts : Toks) (j : Nat) (D : DataW Unit) : Prop :=
  ∀ s : ByteArray, Maps.has D (key s) = (lastOf ts j s).isSome ∧ ∀ k, lastOf ts j s = some k → D.atKey (key s) (.lit (.int .i64 0)) = .lit (.int .i64 (k : Int))
theorem nm_nil (ts : Toks) : Nm ts 0 (.map []) := fun s => ⟨rfl, fun k h => by simp [lastOf] at h⟩
theorem nm_put {ts : Toks} {j : Nat} {D : DataW Unit} (h : Nm ts j D) (hD : IsMap D) (hz : (at_ ts j).size ≠ 0) : Nm ts (j + 1) (D.put (key (at_ ts j)) (.lit (.int .i64 (j : Int)))) := by
  intro s
  unfold lastOf
  by_cases hs : at_ ts j = s
  · subst hs
    rw [if_pos ⟨rfl, hz⟩]
    have hk0 : WideAt.IsKeyLit (key (at_ ts j)) := by first | trivial | simp [WideAt.IsKeyLit]
    exact ⟨has_put_same hD hk0 _, fun k hk => by obtain rfl := Option.some.inj hk; exact atKey_put_same hD hk0 _ _⟩
  · rw [if_neg (fun hc => hs hc.1)]
    have hne : key s ≠ key (at_ ts j) := fun e => hs (key_inj e).symm
    rw [has_put_other hne, atKey_put_other hne]
    exact h s
theorem nm_skip {ts : Toks} {j : Nat} {D : DataW Unit} (h : Nm ts j D) (hz : (at_ ts j).size = 0) : Nm ts (j + 1) D := by
  intro s
  unfold lastOf
  rw [if_neg (fun hc => hc.2 (by rw [← hc.1]; exact hz))]
  exact h s
end Vc
end Go.Proofs.Ytcjakjmhghoilaa

/-
  What the chapter says of rows and specials, in plain mathematics: their tokens, the merges of all cuts, the specials by rising names; each is one. No program is named here.
-/
namespace Go.Proofs.Ytcjakjmhghoilaa
open Go.RowKit
namespace Vc
/-- How many tokens rows and specials have. -/
structure Sz (rs sp : Sps) (N : Nat) : Prop where
  r : ∀ i, i < rs.length → kat rs i + 1 ≤ (N : Int)
  s : ∀ i, i < sp.length → kat sp i + 1 ≤ (N : Int)
  top : N = 0 ∨ (∃ i, i < rs.length ∧ kat rs i + 1 = (N : Int)) ∨ (∃ i, i < sp.length ∧ kat sp i + 1 = (N : Int))
theorem Sz.le {rs sp : Sps} {N N' : Nat} (h : Sz rs sp N) (k : Sz rs sp N') : N ≤ N' := by
  rcases h.top with rfl | ⟨i, hi, he⟩ | ⟨i, hi, he⟩
  · omega
  · have := k.r i hi; omega
  · have := k.s i hi; omega
theorem Sz.one {rs sp : Sps} {N N' : Nat} (h : Sz rs sp N) (k : Sz rs sp N') : N = N' := Nat.le_antisymm (h.le k) (k.le h)
/-- Each number may be, and no two rows have one. -/
structure Ranks (rs sp : Sps) : Prop where
  r : ∀ i, i < rs.length → Num (kat rs i)
  s : ∀ i, i < sp.length → Num (kat sp i)
  ap : ∀ i j, i < j → j < rs.length → kat rs i ≠ kat rs j
/-- The tokens of rows and specials. -/
structure TokIs (rs sp : Sps) (ts : Toks) : Prop where
  sz : Sz rs sp ts.length
  there : ∀ i, i < rs.length → at_ ts (kat rs i).toNat = tat rs i
  none : ∀ k, k < ts.length → (∀ i, i < rs.length → kat rs i ≠ (k : Int)) → at_ ts k = ⟨#[]⟩
theorem TokIs.one {rs sp : Sps} {ts ts' : Toks} (h : TokIs rs sp ts) (k : TokIs rs sp ts') : ts = ts' := by
  have hl := h.sz.one k.sz
  refine at_ext hl (fun i hi => ?_)
  by_cases hx : ∃ q, q < rs.length ∧ kat rs q = (i : Int)
  · obtain ⟨q, hq, he⟩ := hx
    have h1 := h.there q hq
    have h2 := k.there q hq
    rw [he, Int.toNat_natCast] at h1 h2
    rw [h1, h2]
  · have hx' : ∀ q, q < rs.length → kat rs q ≠ (i : Int) := fun q hq he => hx ⟨q, hq, he⟩
    rw [h.none i hi hx', k.none i (by omega) hx']
theorem TokIs.len {rs sp : Sps} {ts : Toks} (h : TokIs rs sp ts) (hR : Ranks rs sp) : ts.length ≤ 4096 := by
  rcases h.sz.top with h1 | ⟨i, hi, he⟩ | ⟨i, hi, he⟩
  · omega
  · have := (hR.r i hi).2; omega
  · have := (hR.s i hi).2; omega
/-- A token is a row's, or empty. -/
theorem TokIs.mem {rs sp : Sps} {ts : Toks} (h : TokIs rs sp ts) {k : Nat} (hk : k < ts.length) : at_ ts k = ⟨#[]⟩ ∨ ∃ i, i < rs.length ∧ kat rs i = (k : Int) ∧ at_ ts k = tat rs i := by
  by_cases hx : ∃ q, q < rs.length ∧ kat rs q = (k : Int)
  · obtain ⟨q, hq, he⟩ := hx
    have h1 := h.there q hq
    rw [he, Int.toNat_natCast] at h1
    exact .inr ⟨q, hq, he, h1⟩
  · exact .inl (h.none k hk (fun q hq he => hx ⟨q, hq, he⟩))

/-! ### The merges of all cuts -/
def num (ts : Toks) (s : ByteArray) : Option Nat := lastOf ts ts.length s
def cutOf (o : Nat) : Option Nat → Option Nat → List Mg4
  | some l, some r => [((l : Int), (r : Int), (o : Int), (o : Int))]
  | _, _ => []
def cutAt (ts : Toks) (o k : Nat) : List Mg4 := cutOf o (num ts ((at_ ts o).extract 0 k)) (num ts ((at_ ts o).extract k (at_ ts o).size))
def cutsTo (ts : Toks) (o : Nat) : Nat → List Mg4
  | 0 => []
  | k + 1 => cutsTo ts o k ++ cutAt ts o (k + 1)
def cutsL (ts : Toks) : Nat → List Mg4
  | 0 => []
  | o + 1 => cutsL ts o ++ cutsTo ts o ((at_ ts o).size - 1)
theorem cutOf_len (o : Nat) (a b : Option Nat) : (cutOf o a b).length ≤ 1 := by cases a <;> cases b <;> simp [cutOf]
theorem cutsTo_len (ts : Toks) (o : Nat) : ∀ k, (cutsTo ts o k).length ≤ k
  | 0 => by simp [cutsTo]
  | k + 1 => by
    have h := cutsTo_len ts o k
    have h2 := cutOf_len o (num ts ((at_ ts o).extract 0 (k + 1))) (num ts ((at_ ts o).extract (k + 1) (at_ ts o).size))
    rw [cutsTo, List.length_append]
    unfold cutAt
    omega
theorem cutsL_len {ts : Toks} (hz : ∀ i, i < ts.length → (at_ ts i).size ≤ 64) : ∀ o, o ≤ ts.length → (cutsL ts o).length ≤ o * 64
  | 0, _ => by simp [cutsL]
  | o + 1, h => by
    have h1 := cutsL_len hz o (by omega)
    have h2 := cutsTo_len ts o ((at_ ts o).size - 1)
    have h3 := hz o (by omega)
    rw [cutsL, List.length_append]
    omega
theorem cutAt_mem {ts : Toks} {o k : Nat} {m : Mg4} (h : m ∈ cutAt ts o k) : ∃ l r : Nat, num ts ((at_ ts o).extract 0 k) = some l ∧ num ts ((at_ ts o).extract k (at_ ts o).size) = some r ∧ m = ((l : Int), (r : Int), (o : Int), (o : Int)) := by
  unfold cutAt at h
  cases h1 : num ts ((at_ ts o).extract 0 k) with
  | none => rw [h1] at h; simp [cutOf] at h
  | some l =>
    cases h2 : num ts ((at_ ts o).extract k (at_ ts o).size) with
    | none => rw [h1, h2] at h; simp [cutOf] at h
    | some r => rw [h1, h2] at h; simp [cutOf] at h; exact ⟨l, r, rfl, rfl, h⟩
theorem cutsTo_mem {ts : Toks} {o : Nat} {m : Mg4} : ∀ {k : Nat}, m ∈ cutsTo ts o k → ∃ q, 0 < q ∧ q ≤ k ∧ m ∈ cutAt ts o q
  | 0, h => by simp [cutsTo] at h
  | k + 1, h => by
    rw [cutsTo, List.mem_append] at h
    rcases h with h | h
    · obtain ⟨q, h1, h2, h3⟩ := cutsTo_mem h
      exact ⟨q, h1, by omega, h3⟩
    · exact ⟨k + 1, by omega, Nat.le_refl _, h⟩
theorem cutsL_mem {ts : Toks} {m : Mg4} : ∀ {n : Nat}, m ∈ cutsL ts n → ∃ o q, o < n ∧ 0 < q ∧ q < (at_ ts o).size ∧ m ∈ cutAt ts o q
  | 0, h => by simp [cutsL] at h
  | n + 1, h => by
    rw [cutsL, List.mem_append] at h
    rcases h with h | h
    · obtain ⟨o, q, h1, h2⟩ := cutsL_mem h
      exact ⟨o, q, by omega, h2⟩
    · obtain ⟨q, h1, h2, h3⟩ := cutsTo_mem h
      exact ⟨n, q, by omega, h1, by omega, h3⟩
/-- Merges of all cuts, rising. -/
structure CutsIs (ts : Toks) (ms : List Mg4) : Prop where
  perm : ms.Perm (cutsL ts ts.length)
  up : ms.Pairwise (fun a b => ¬ Ahead b a)
theorem CutsIs.one {ts : Toks} {ms ms' : List Mg4} (h : CutsIs ts ms) (k : CutsIs ts ms') : ms = ms' := by
  have hp := h.perm.trans k.perm.symm
  refine List.Perm.eq_of_pairwise (le := fun a b => ¬ Ahead b a) (fun a b ha hb h1 h2 => ?_) h.up k.up hp
  obtain ⟨o1, q1, _, _, _, m1⟩ := cutsL_mem (h.perm.mem_iff.1 ha)
  obtain ⟨o2, q2, _, _, _, m2⟩ := cutsL_mem (k.perm.mem_iff.1 hb)
  obtain ⟨l1, r1, _, _, e1⟩ := cutAt_mem m1
  obtain ⟨l2, r2, _, _, e2⟩ := cutAt_mem m2
  subst e1 e2
  rcases Ahead.total ((l1 : Int), (r1 : Int), (o1 : Int), (o1 : Int)) ((l2 : Int), (r2 : Int), (o2 : Int), (o2 : Int)) with h | h | ⟨e1, e2, e3⟩
  · exact absurd h h2
  · exact absurd h h1
  · simp only at e1 e2 e3
    rw [e1, e2, e3]

/-! ### The specials by rising names -/
structure SpIs (sp sp' : Sps) : Prop where
  perm : sp'.Perm sp
  up : sp'.Pairwise (fun a b => ¬ NLt b.1 a.1)
theorem nlt_irrefl (a : ByteArray) : ¬ NLt a a := List.lt_irrefl _
theorem nlt_total {a b : ByteArray} (h : ¬ NLt a b) (k : ¬ NLt b a) : a = b := by
  apply by_inj
  exact List.le_antisymm (List.not_lt.1 k) (List.not_lt.1 h)
theorem mayS_pw {ts : Toks} {sp : Sps} (h : MayS ts sp) : sp.Pairwise (fun a b => NLt a.1 b.1) := by
  rw [List.pairwise_iff_getElem]
  intro i j hi hj hij
  have := (h.both i j hij hj).1
  simpa [tat, hi, hj] using this
theorem SpIs.one {ts : Toks} {sp a b : Sps} (h : SpIs sp a) (k : SpIs sp b) (hm : MayS ts a) : a = b := by
  have hp := h.perm.trans k.perm.symm
  have hn : (a.map (·.1)).Nodup := by
    unfold List.Nodup
    rw [List.pairwise_map]
    exact (mayS_pw hm).imp (fun h e => by rw [e] at h; exact nlt_irrefl _ h)
  have hinj : ∀ x ∈ a, ∀ y ∈ a, x.1 = y.1 → x = y := by
    have hq := mayS_pw hm
    intro x hx y hy he
    obtain ⟨i, hi, rfl⟩ := List.mem_iff_getElem.1 hx
    obtain ⟨j, hj, rfl⟩ := List.mem_iff_getElem.1 hy
    rw [List.pairwise_iff_getElem] at hq
    rcases Nat.lt_trichotomy i j with h1 | h1 | h1
    · have := hq i j hi hj h1
      rw [he] at this
      exact absurd this (nlt_irrefl _)
    · subst h1; rfl
    · have := hq j i hj hi h1
      rw [he] at this
      exact absurd this (nlt_irrefl _)
  refine List.Perm.eq_of_pairwise (le := fun x y => ¬ NLt y.1 x.1) (fun x y hx hy h1 h2 => ?_) h.up k.up hp
  exact hinj x hx y (hp.mem_iff.2 hy) (nlt_total h2 h1)

/-! ### The vocabulary of rows -/
structure FromIs (rs sp : Sps) (ts : Toks) (ms : List Mg4) (sp' : Sps) : Prop where
  ranks : Ranks rs sp
  tok : TokIs rs sp ts
  cuts : CutsIs ts ms
  sps : SpIs sp sp'
  may : May ts ms sp'
theorem FromIs.one {rs sp : Sps} {ts ts2 : Toks} {ms ms2 : List Mg4} {sp1 sp2 : Sps} (h : FromIs rs sp ts ms sp1) (k : FromIs rs sp ts2 ms2 sp2) : ts = ts2 ∧ ms = ms2 ∧ sp1 = sp2 := by
  obtain rfl := h.tok.one k.tok
  exact ⟨rfl, h.cuts.one k.cuts, h.sps.one k.sps h.may.S⟩
/-- Rows and specials that are no vocabulary. -/
def NoFrom (rs sp : Sps) : Prop := ¬ ∃ ts ms sp', FromIs rs sp ts ms sp'
theorem noFrom {rs sp : Sps} {ts : Toks} {ms : List Mg4} {sp' : Sps} (h1 : TokIs rs sp ts) (h2 : CutsIs ts ms) (h3 : SpIs sp sp') (h : ¬ May ts ms sp') : NoFrom rs sp := by
  rintro ⟨ts2, ms2, sp2, k⟩
  obtain rfl := h1.one k.tok
  obtain rfl := h2.one k.cuts
  obtain rfl := k.sps.one h3 k.may.S
  exact h k.may
theorem noFrom_ranks {rs sp : Sps} (h : ¬ Ranks rs sp) : NoFrom rs sp := fun ⟨_, _, _, k⟩ => h k.ranks
theorem noFrom_tok {rs sp : Sps} {ts : Toks} (h1 : TokIs rs sp ts) (h : ¬ MayT ts) : NoFrom rs sp := by
  rintro ⟨ts2, ms2, sp2, k⟩
  obtain rfl := h1.one k.tok
  exact h k.may.T
end Vc
end Go.Proofs.Ytcjakjmhghoilaa

/-
  The chapter's example, in plain mathematics: the 256 bytes and "ab" make a vocabulary of one merge. No program is named here.
-/
namespace Go.Proofs.Ytcjakjmhghoilaa
open Go.RowKit
namespace Vc
/-- The rows of the first bytes. -/
def bR (n : Nat) : Sps := (List.range n).map (fun b => (one b, (b : Int)))
def ab : ByteArray := mk [97, 98]
def fixR : Sps := bR 256 ++ [(ab, 256)]
def fixT : Toks := (List.range 256).map one ++ [ab]
theorem bR_succ (n : Nat) : bR (n + 1) = bR n ++ [(one n, (n : Int))] := by simp [bR, List.range_succ]
theorem bR_len (n : Nat) : (bR n).length = n := by simp [bR]
theorem fixR_len : fixR.length = 257 := by simp [fixR, bR_len]
theorem fixT_len : fixT.length = 257 := by simp [fixT]
theorem fixR_lo {i : Nat} (h : i < 256) : tat fixR i = one i ∧ kat fixR i = i := by
  have h1 : fixR[i]? = some (one i, (i : Int)) := by
    unfold fixR
    rw [List.getElem?_append_left (by rw [bR_len]; exact h)]
    simp [bR, h]
  simp [tat, kat, List.getD_eq_getElem?_getD, h1]
theorem fixR_hi : tat fixR 256 = ab ∧ kat fixR 256 = 256 := by
  have h1 : fixR[256]? = some (ab, 256) := by
    unfold fixR
    rw [List.getElem?_append_right (by rw [bR_len]; omega), bR_len]
    rfl
  simp [tat, kat, List.getD_eq_getElem?_getD, h1]
theorem fixT_lo {i : Nat} (h : i < 256) : at_ fixT i = one i := by
  have h1 : fixT[i]? = some (one i) := by
    unfold fixT
    rw [List.getElem?_append_left (by simpa using h)]
    simp [h]
  simp [at_, List.getD_eq_getElem?_getD, h1]
theorem fixT_hi : at_ fixT 256 = ab := by
  have h1 : fixT[256]? = some ab := by
    unfold fixT
    rw [List.getElem?_append_right (by simp)]
    simp
  simp [at_, List.getD_eq_getElem?_getD, h1]
theorem one_sz (b : Nat) : (one b).size = 1 := rfl
theorem ab_sz : ab.size = 2 := rfl
theorem one_inj {i j : Nat} (hi : i < 256) (hj : j < 256) (h : one i = one j) : i = j := by
  have h1 := mk_inj h
  simp only [List.cons.injEq, and_true] at h1
  have h2 := congrArg UInt8.toNat h1
  simp only [UInt8.toNat_ofNat'] at h2
  omega
theorem fix_mayT : MayT fixT where
  len := by rw [fixT_len]; omega
  sz := fun i hi => by
    rw [fixT_len] at hi
    by_cases h : i < 256
    · rw [fixT_lo h, one_sz]; omega
    · obtain rfl : i = 256 := by omega
      rw [fixT_hi, ab_sz]; omega
  apart := fun i j hi hj _ he => by
    rw [fixT_len] at hi hj
    by_cases h : i < 256
    · by_cases k : j < 256
      · rw [fixT_lo h, fixT_lo k] at he
        exact one_inj h k he
      · obtain rfl : j = 256 := by omega
        rw [fixT_lo h, fixT_hi] at he
        have := congrArg ByteArray.size he
        rw [one_sz, ab_sz] at this
        omega
    · obtain rfl : i = 256 := by omega
      by_cases k : j < 256
      · rw [fixT_lo k, fixT_hi] at he
        have := congrArg ByteArray.size he
        rw [one_sz, ab_sz] at this
        omega
      · omega
  all := fun b hb => ⟨b, by rw [fixT_len]; omega, fixT_lo hb⟩
/-- The number of a token that is there. -/
theorem num_at {ts : Toks} (h : MayT ts) {i : Nat} (hi : i < ts.length) (hz : (at_ ts i).size ≠ 0) : num ts (at_ ts i) = some i := by
  obtain ⟨k, hk, _⟩ := lastOf_has (ts := ts) hi hz
  obtain ⟨h1, h2, _⟩ := lastOf_some hk
  unfold num
  rw [hk, h.apart i k hi h1 hz h2.symm]
theorem num_some {ts : Toks} {s : ByteArray} {k : Nat} (h : num ts s = some k) : k < ts.length ∧ at_ ts k = s ∧ s.size ≠ 0 := lastOf_some h
theorem fix_cuts : cutsL fixT 257 = [((97 : Int), (98 : Int), (256 : Int), (256 : Int))] := by
  have h0 : ∀ n, n ≤ 256 → cutsL fixT n = [] := by
    intro n
    induction n with
    | zero => intro _; rfl
    | succ n ih =>
      intro h
      rw [cutsL, ih (by omega), fixT_lo (show n < 256 by omega), one_sz]
      rfl
  rw [cutsL, h0 256 (Nat.le_refl _), fixT_hi, ab_sz]
  show [] ++ ([] ++ cutAt fixT 256 1) = _
  unfold cutAt
  rw [fixT_hi, ab_sz]
  have e1 : ab.extract 0 1 = one 97 := by apply by_inj; rw [by_extract]; rfl
  have e2 : ab.extract 1 2 = one 98 := by apply by_inj; rw [by_extract]; rfl
  have n1 := num_at fix_mayT (i := 97) (by rw [fixT_len]; omega) (by rw [fixT_lo (by omega), one_sz]; omega)
  have n2 := num_at fix_mayT (i := 98) (by rw [fixT_len]; omega) (by rw [fixT_lo (by omega), one_sz]; omega)
  rw [fixT_lo (by omega)] at n1 n2
  rw [e1, e2, n1, n2]
  rfl
theorem fix_is {i : Nat} (h : i < 257) : Is fixT (i : Int) := by
  refine ⟨by omega, by rw [fixT_len]; omega, ?_⟩
  rw [Int.toNat_natCast]
  by_cases k : i < 256
  · rw [fixT_lo k, one_sz]; omega
  · obtain rfl : i = 256 := by omega
    rw [fixT_hi, ab_sz]; omega
theorem fix_from : FromIs fixR [] fixT [((97 : Int), (98 : Int), (256 : Int), (256 : Int))] [] where
  ranks := ⟨fun i hi => by
      rw [fixR_len] at hi
      by_cases h : i < 256
      · rw [(fixR_lo h).2]; exact ⟨by omega, by omega⟩
      · obtain rfl : i = 256 := by omega
        rw [fixR_hi.2]; exact ⟨by omega, by omega⟩, fun i hi => by simp at hi, fun i j hij hj => by
      rw [fixR_len] at hj
      rw [(fixR_lo (show i < 256 by omega)).2]
      by_cases h : j < 256
      · rw [(fixR_lo h).2]; omega
      · obtain rfl : j = 256 := by omega
        rw [fixR_hi.2]; omega⟩
  tok := ⟨⟨fun i hi => by
      rw [fixR_len] at hi
      rw [fixT_len]
      by_cases h : i < 256
      · rw [(fixR_lo h).2]; omega
      · obtain rfl : i = 256 := by omega
        rw [fixR_hi.2]; omega, fun i hi => by simp at hi, .inr (.inl ⟨256, by rw [fixR_len]; omega, by rw [fixR_hi.2, fixT_len]; rfl⟩)⟩, fun i hi => by
      rw [fixR_len] at hi
      by_cases h : i < 256
      · rw [(fixR_lo h).2, (fixR_lo h).1, Int.toNat_natCast, fixT_lo h]
      · obtain rfl : i = 256 := by omega
        rw [fixR_hi.2, fixR_hi.1]; exact fixT_hi, fun k hk hno => by
      rw [fixT_len] at hk
      by_cases h : k < 256
      · exact absurd (fixR_lo h).2 (hno k (by rw [fixR_len]; omega))
      · obtain rfl : k = 256 := by omega
        exact absurd fixR_hi.2 (hno 256 (by rw [fixR_len]; omega))⟩
  cuts := ⟨by rw [fixT_len, fix_cuts], by simp⟩
  sps := ⟨List.Perm.refl _, List.Pairwise.nil⟩
  may := ⟨fix_mayT, ⟨by simp, fun i hi => by
      obtain rfl : i = 0 := by simpa using hi
      refine ⟨fix_is (i := 97) (by omega), fix_is (i := 98) (by omega), fix_is (i := 256) (by omega), ?_, by simp [mat], by simp [mat]⟩
      show at_ fixT 256 = at_ fixT 97 ++ at_ fixT 98
      rw [fixT_hi, fixT_lo (by omega), fixT_lo (by omega)]
      rfl, fun i j hij hj => by simp at hj; omega⟩, fun i hi => by
      rw [fixT_len] at hi
      by_cases h : i < 256
      · left; rw [fixT_lo h, one_sz]; omega
      · right
        obtain rfl : i = 256 := by omega
        exact ⟨0, by simp, by simp [mat]⟩, ⟨by simp, fun i hi => by simp at hi, fun i j _ hj => by simp at hj⟩⟩
theorem fixR_size (i : Nat) (hi : i < fixR.length) : (tat fixR i).size ≤ 2 := by
  rw [fixR_len] at hi
  by_cases h : i < 256
  · rw [(fixR_lo h).1, one_sz]; omega
  · obtain rfl : i = 256 := by omega
    rw [fixR_hi.1, ab_sz]; omega
end Vc
end Go.Proofs.Ytcjakjmhghoilaa

/-
  What the chapter says of steps and ends of rows, in plain mathematics. No program is named here.
-/
namespace Go.Proofs.Ytcjakjmhghoilaa
open Go.RowKit
namespace Pr
/-- The first of the first j merges that is of these two tokens. -/
def fndTo (ms : List Mg4) (l r : Int) : Nat → Option Nat
  | 0 => none
  | j + 1 => match fndTo ms l r j with
    | some k => some k
    | none => if (mat ms j).1 = l ∧ (mat ms j).2.1 = r then some j else none
/-- The place of the merge of two tokens. -/
def fnd (ms : List Mg4) (l r : Int) : Option Nat := fndTo ms l r ms.length
theorem fndTo_some {ms : List Mg4} {l r : Int} : ∀ {j k : Nat}, fndTo ms l r j = some k → k < j ∧ (mat ms k).1 = l ∧ (mat ms k).2.1 = r
  | 0, k, h => by simp [fndTo] at h
  | j + 1, k, h => by
    unfold fndTo at h
    cases hq : fndTo ms l r j with
    | some i =>
      rw [hq] at h
      obtain rfl := Option.some.inj h
      have := fndTo_some hq
      exact ⟨by omega, this.2⟩
    | none =>
      rw [hq] at h
      by_cases hc : (mat ms j).1 = l ∧ (mat ms j).2.1 = r
      · simp only [if_pos hc] at h
        obtain rfl := Option.some.inj h
        exact ⟨by omega, hc⟩
      · simp only [if_neg hc] at h
        cases h
theorem fndTo_none {ms : List Mg4} {l r : Int} : ∀ {j : Nat}, fndTo ms l r j = none → ∀ i, i < j → ¬ ((mat ms i).1 = l ∧ (mat ms i).2.1 = r)
  | 0, _, i, hi => by omega
  | j + 1, h, i, hi => by
    unfold fndTo at h
    cases hq : fndTo ms l r j with
    | some k => rw [hq] at h; cases h
    | none =>
      rw [hq] at h
      by_cases hc : (mat ms j).1 = l ∧ (mat ms j).2.1 = r
      · simp only [if_pos hc] at h; cases h
      · by_cases hij : i = j
        · rw [hij]; exact hc
        · exact fndTo_none hq i (by omega)
theorem fndTo_hit {ms : List Mg4} {l r : Int} {j : Nat} (h : fndTo ms l r j = none) (hc : (mat ms j).1 = l ∧ (mat ms j).2.1 = r) : fndTo ms l r (j + 1) = some j := by
  unfold fndTo; rw [h]; simp only [if_pos hc]
theorem fndTo_miss {ms : List Mg4} {l r : Int} {j : Nat} (h : fndTo ms l r j = none) (hc : ¬ ((mat ms j).1 = l ∧ (mat ms j).2.1 = r)) : fndTo ms l r (j + 1) = none := by
  unfold fndTo; rw [h]; simp only [if_neg hc]
theorem fndTo_mono {ms : List Mg4} {l r : Int} {j k : Nat} (h : fndTo ms l r j = some k) : ∀ n, fndTo ms l r (j + n) = some k
  | 0 => h
  | n + 1 => by
    show fndTo ms l r (j + n + 1) = some k
    unfold fndTo
    rw [fndTo_mono h n]
theorem fnd_hit {ms : List Mg4} {l r : Int} {j : Nat} (hj : j < ms.length) (h : fndTo ms l r j = none) (hc : (mat ms j).1 = l ∧ (mat ms j).2.1 = r) : fnd ms l r = some j := by
  have := fndTo_mono (fndTo_hit h hc) (ms.length - (j + 1))
  rw [show j + 1 + (ms.length - (j + 1)) = ms.length by omega] at this
  exact this
theorem fnd_some {ms : List Mg4} {l r : Int} {k : Nat} (h : fnd ms l r = some k) : k < ms.length ∧ (mat ms k).1 = l ∧ (mat ms k).2.1 = r := fndTo_some h
theorem fnd_none {ms : List Mg4} {l r : Int} (h : fnd ms l r = none) : ∀ i, i < ms.length → ¬ ((mat ms i).1 = l ∧ (mat ms i).2.1 = r) := fndTo_none h
/-- The merge of two tokens; noughts. -/
def fm (ms : List Mg4) (l r : Int) : Mg4 := match fnd ms l r with | some k => mat ms k | none => (0, 0, 0, 0)
/-- Is there one? -/
def fb (ms : List Mg4) (l r : Int) : Bool := (fnd ms l r).isSome

/-- The order of a merge. -/
def ord (ms : List Mg4) (k : Nat) : Int := (mat ms k).2.2.2
/-- What a step takes among the first j places: the place, and that of the merge. -/
def bst (ms : List Mg4) (xs : Row) : Nat → Option (Nat × Nat)
  | 0 => none
  | j + 1 => match fnd ms (it xs j) (it xs (j + 1)) with
    | none => bst ms xs j
    | some k => match bst ms xs j with
      | none => some (j, k)
      | some (p, b) => if ord ms k < ord ms b then some (j, k) else some (p, b)
def best (ms : List Mg4) (xs : Row) : Option (Nat × Nat) := bst ms xs (xs.length - 1)
theorem bst_none' {ms : List Mg4} {xs : Row} {j : Nat} (h : fnd ms (it xs j) (it xs (j + 1)) = none) : bst ms xs (j + 1) = bst ms xs j := by
  show (match fnd ms (it xs j) (it xs (j + 1)) with | none => _ | some k => _) = _
  rw [h]
theorem bst_new {ms : List Mg4} {xs : Row} {j k : Nat} (h : fnd ms (it xs j) (it xs (j + 1)) = some k) (hb : bst ms xs j = none) : bst ms xs (j + 1) = some (j, k) := by
  show (match fnd ms (it xs j) (it xs (j + 1)) with | none => _ | some k => _) = _
  rw [h]
  show (match bst ms xs j with | none => _ | some (p, b) => _) = _
  rw [hb]
theorem bst_less {ms : List Mg4} {xs : Row} {j k p b : Nat} (h : fnd ms (it xs j) (it xs (j + 1)) = some k) (hb : bst ms xs j = some (p, b)) (hl : ord ms k < ord ms b) : bst ms xs (j + 1) = some (j, k) := by
  show (match fnd ms (it xs j) (it xs (j + 1)) with | none => _ | some k => _) = _
  rw [h]
  show (match bst ms xs j with | none => _ | some (p, b) => _) = _
  rw [hb]
  exact if_pos hl
theorem bst_keep {ms : List Mg4} {xs : Row} {j k p b : Nat} (h : fnd ms (it xs j) (it xs (j + 1)) = some k) (hb : bst ms xs j = some (p, b)) (hl : ¬ ord ms k < ord ms b) : bst ms xs (j + 1) = some (p, b) := by
  show (match fnd ms (it xs j) (it xs (j + 1)) with | none => _ | some k => _) = _
  rw [h]
  show (match bst ms xs j with | none => _ | some (p, b) => _) = _
  rw [hb]
  exact if_neg hl
/-- What 'the least one, of several the first' says. -/
structure BIs (ms : List Mg4) (xs : Row) (j p k : Nat) : Prop where
  lt : p < j
  fd : fnd ms (it xs p) (it xs (p + 1)) = some k
  all : ∀ i k', i < j → fnd ms (it xs i) (it xs (i + 1)) = some k' → ord ms k ≤ ord ms k' ∧ (i < p → ord ms k < ord ms k')
theorem bst_is {ms : List Mg4} {xs : Row} : ∀ j, (bst ms xs j = none ∧ ∀ i, i < j → fnd ms (it xs i) (it xs (i + 1)) = none) ∨ ∃ p k, bst ms xs j = some (p, k) ∧ BIs ms xs j p k
  | 0 => .inl ⟨rfl, fun i hi => by omega⟩
  | j + 1 => by
    cases hf : fnd ms (it xs j) (it xs (j + 1)) with
    | none =>
      rw [bst_none' hf]
      rcases bst_is (ms := ms) (xs := xs) j with ⟨h1, h2⟩ | ⟨p, k, h1, h2⟩
      · refine .inl ⟨h1, fun i hi => ?_⟩
        by_cases h : i = j
        · rw [h]; exact hf
        · exact h2 i (by omega)
      · refine .inr ⟨p, k, h1, ⟨by have := h2.lt; omega, h2.fd, fun i k' hi hk => ?_⟩⟩
        by_cases h : i = j
        · rw [h, hf] at hk; cases hk
        · exact h2.all i k' (by omega) hk
    | some q =>
      rcases bst_is (ms := ms) (xs := xs) j with ⟨h1, h2⟩ | ⟨p, k, h1, h2⟩
      · refine .inr ⟨j, q, bst_new hf h1, ⟨by omega, hf, fun i k' hi hk => ?_⟩⟩
        by_cases h : i = j
        · rw [h, hf] at hk
          obtain rfl := Option.some.inj hk
          exact ⟨Int.le_refl _, fun h' => by omega⟩
        · rw [h2 i (by omega)] at hk; cases hk
      · by_cases hl : ord ms q < ord ms k
        · refine .inr ⟨j, q, bst_less hf h1 hl, ⟨by omega, hf, fun i k' hi hk => ?_⟩⟩
          by_cases h : i = j
          · rw [h, hf] at hk
            obtain rfl := Option.some.inj hk
            exact ⟨Int.le_refl _, fun h' => by omega⟩
          · have := h2.all i k' (by omega) hk
            exact ⟨by omega, fun _ => by omega⟩
        · refine .inr ⟨p, k, bst_keep hf h1 hl, ⟨by have := h2.lt; omega, h2.fd, fun i k' hi hk => ?_⟩⟩
          by_cases h : i = j
          · rw [h, hf] at hk
            obtain rfl := Option.some.inj hk
            exact ⟨by omega, fun h' => by have := h2.lt; omega⟩
          · exact h2.all i k' (by omega) hk
theorem BIs.one {ms : List Mg4} {xs : Row} {j p k p' k' : Nat} (h : BIs ms xs j p k) (g : BIs ms xs j p' k') : p = p' ∧ k = k' := by
  have e : p = p' := by
    rcases Nat.lt_trichotomy p p' with q | q | q
    · have h1 := (g.all p k h.lt h.fd).2 q
      have h2 := (h.all p' k' g.lt g.fd).1
      omega
    · exact q
    · have h1 := (h.all p' k' g.lt g.fd).2 q
      have h2 := (g.all p k h.lt h.fd).1
      omega
  subst e
  have := h.fd.symm.trans g.fd
  exact ⟨rfl, Option.some.inj this⟩
theorem bst_of {ms : List Mg4} {xs : Row} {j p k : Nat} (h : BIs ms xs j p k) : bst ms xs j = some (p, k) := by
  rcases bst_is (ms := ms) (xs := xs) j with ⟨_, h2⟩ | ⟨p', k', h1, h2⟩
  · have := h2 p h.lt
    rw [h.fd] at this
    cases this
  · obtain ⟨rfl, rfl⟩ := h.one h2
    exact h1
theorem bst_nil {ms : List Mg4} {xs : Row} {j : Nat} (h : ∀ i, i < j → fnd ms (it xs i) (it xs (i + 1)) = none) : bst ms xs j = none := by
  rcases bst_is (ms := ms) (xs := xs) j with ⟨h1, _⟩ | ⟨p', k', _, h2⟩
  · exact h1
  · have := h p' h2.lt
    rw [h2.fd] at this
    cases this
theorem bst_some {ms : List Mg4} {xs : Row} {j p k : Nat} (h : bst ms xs j = some (p, k)) : BIs ms xs j p k := by
  rcases bst_is (ms := ms) (xs := xs) j with ⟨h1, _⟩ | ⟨p', k', h1, h2⟩
  · rw [h1] at h; cases h
  · rw [h1] at h
    cases h
    exact h2
theorem bst_gone {ms : List Mg4} {xs : Row} {j : Nat} (h : bst ms xs j = none) : ∀ i, i < j → fnd ms (it xs i) (it xs (i + 1)) = none := by
  rcases bst_is (ms := ms) (xs := xs) j with ⟨_, h1⟩ | ⟨p', k', h1, h2⟩
  · exact h1
  · rw [h1] at h; cases h

/-- The row behind a step. -/
def step (ms : List Mg4) (xs : Row) : Option Row := match best ms xs with | none => none | some (p, k) => some (jn xs p (mat ms k).2.2.1)
theorem step_none {ms : List Mg4} {xs : Row} (h : best ms xs = none) : step ms xs = none := by unfold step; rw [h]
theorem step_some {ms : List Mg4} {xs : Row} {p k : Nat} (h : best ms xs = some (p, k)) : step ms xs = some (jn xs p (mat ms k).2.2.1) := by unfold step; rw [h]
theorem best_lt {ms : List Mg4} {xs : Row} {p k : Nat} (h : best ms xs = some (p, k)) : p + 1 < xs.length ∧ k < ms.length := by
  have := bst_some h
  exact ⟨by have := this.lt; omega, (fnd_some this.fd).1⟩
theorem step_len {ms : List Mg4} {xs ys : Row} (h : step ms xs = some ys) : ys.length + 1 = xs.length ∧ 2 ≤ xs.length := by
  unfold step at h
  cases hb : best ms xs with
  | none => rw [hb] at h; cases h
  | some q =>
    obtain ⟨p, k⟩ := q
    rw [hb] at h
    obtain rfl := Option.some.inj h
    have := (best_lt hb).1
    rw [jn_len _ this]
    omega
/-- So many steps, as long as there are such. -/
def runN (ms : List Mg4) : Nat → Row → Row
  | 0, xs => xs
  | n + 1, xs => match step ms xs with | none => xs | some ys => runN ms n ys
/-- A row's end. -/
def run (ms : List Mg4) (xs : Row) : Row := runN ms xs.length xs
theorem runN_stop {ms : List Mg4} {xs : Row} (h : step ms xs = none) : ∀ n, runN ms n xs = xs
  | 0 => rfl
  | n + 1 => by unfold runN; rw [h]
theorem runN_step {ms : List Mg4} {xs ys : Row} (h : step ms xs = some ys) (n : Nat) : runN ms (n + 1) xs = runN ms n ys := by
  show (match step ms xs with | none => xs | some ys => runN ms n ys) = _
  rw [h]
theorem run_stop {ms : List Mg4} {xs : Row} (h : step ms xs = none) : run ms xs = xs := runN_stop h _
theorem run_step {ms : List Mg4} {xs ys : Row} (h : step ms xs = some ys) : run ms xs = run ms ys := by
  unfold run
  have := step_len h
  rw [← this.1]
  exact runN_step h _
theorem run_ind {ms : List Mg4} {P : Row → Row → Prop} (h0 : ∀ xs, step ms xs = none → P xs xs) (h1 : ∀ xs ys, step ms xs = some ys → P ys (run ms ys) → P xs (run ms ys)) : ∀ n xs, xs.length ≤ n → P xs (run ms xs)
  | 0, xs, h => by
    cases hs : step ms xs with
    | none => rw [run_stop hs]; exact h0 xs hs
    | some ys => have := step_len hs; omega
  | n + 1, xs, h => by
    cases hs : step ms xs with
    | none => rw [run_stop hs]; exact h0 xs hs
    | some ys =>
      rw [run_step hs]
      have := step_len hs
      exact h1 xs ys hs (run_ind h0 h1 n ys (by omega))
theorem run_end (ms : List Mg4) (xs : Row) : step ms (run ms xs) = none :=
  run_ind (P := fun _ r => step ms r = none) (fun _ h => h) (fun _ _ _ h => h) _ xs (Nat.le_refl _)
theorem run_run (ms : List Mg4) (xs : Row) : run ms (run ms xs) = run ms xs := run_stop (run_end ms xs)
theorem run_len (ms : List Mg4) (xs : Row) : (run ms xs).length ≤ xs.length :=
  run_ind (P := fun xs r => r.length ≤ xs.length) (fun _ _ => Nat.le_refl _) (fun xs ys h k => by have := step_len h; omega) _ xs (Nat.le_refl _)

/-! ### What a row tells -/
/-- The bytes of a row. -/
def cat (ts : Vc.Toks) (xs : Row) : List UInt8 := xs.flatMap fun x => by_ (Vc.tok ts x)
/-- Each number is a token's. -/
def Toks (ts : Vc.Toks) (xs : Row) : Prop := ∀ x ∈ xs, Vc.Is ts x
theorem split_at {xs : Row} {p : Nat} (h : p + 1 < xs.length) : xs = xs.take p ++ it xs p :: it xs (p + 1) :: xs.drop (p + 2) := by
  have hl : (xs.take p).length = p := by rw [List.length_take]; omega
  apply it_ext
  · simp only [List.length_append, List.length_cons, List.length_take, List.length_drop]; omega
  · intro i hi
    by_cases h1 : i < p
    · rw [it_left (by omega), it_take h1]
    · obtain ⟨m, rfl⟩ : ∃ m, i = p + m := ⟨i - p, by omega⟩
      have e := it_right (xs := xs.take p) (ys := it xs p :: it xs (p + 1) :: xs.drop (p + 2)) m
      rw [hl] at e
      rw [e]
      match m with
      | 0 => rfl
      | 1 => rfl
      | m + 2 =>
        show _ = it (xs.drop (p + 2)) m
        rw [it_drop]
        congr 1
        omega
theorem step_cat {ts : Vc.Toks} {ms : List Mg4} (hM : Vc.MayM ts ms) {xs ys : Row} (hT : Toks ts xs) (h : step ms xs = some ys) : Toks ts ys ∧ cat ts ys = cat ts xs := by
  unfold step at h
  cases hb : best ms xs with
  | none => rw [hb] at h; cases h
  | some q =>
    obtain ⟨p, k⟩ := q
    rw [hb] at h
    obtain rfl := Option.some.inj h
    have hB := bst_some hb
    obtain ⟨hk, h1, h2⟩ := fnd_some hB.fd
    have hp := (best_lt hb).1
    obtain ⟨_, _, o1, o2, _, _⟩ := hM.ok k hk
    rw [h1, h2] at o2
    constructor
    · intro x hx
      unfold jn at hx
      rcases List.mem_append.1 hx with g | g
      · exact hT x (List.mem_of_mem_take g)
      · rcases List.mem_cons.1 g with rfl | g
        · exact o1
        · exact hT x (List.mem_of_mem_drop g)
    · have e := split_at hp
      have e2 : cat ts xs = cat ts (xs.take p ++ it xs p :: it xs (p + 1) :: xs.drop (p + 2)) := congrArg (cat ts) e
      rw [e2]
      unfold jn cat
      rw [List.flatMap_append, List.flatMap_append, List.flatMap_cons, List.flatMap_cons, List.flatMap_cons, o2, by_append, List.append_assoc]
theorem run_cat {ts : Vc.Toks} {ms : List Mg4} (hM : Vc.MayM ts ms) {xs : Row} (hT : Toks ts xs) : Toks ts (run ms xs) ∧ cat ts (run ms xs) = cat ts xs :=
  run_ind (ms := ms) (P := fun xs r => Toks ts xs → Toks ts r ∧ cat ts r = cat ts xs) (fun xs _ h => ⟨h, rfl⟩) (fun xs ys h k hx => by
    obtain ⟨h1, h2⟩ := step_cat hM hx h
    obtain ⟨h3, h4⟩ := k h1
    exact ⟨h3, h4.trans h2⟩) _ xs (Nat.le_refl _) hT

/-! ### A number that is no token's -/
theorem odd_right {ts : Vc.Toks} {ms : List Mg4} (hM : Vc.MayM ts ms) {odd : Int} (ho : ¬ Vc.Is ts odd) (l : Int) : fnd ms l odd = none := by
  cases h : fnd ms l odd with
  | none => rfl
  | some k =>
    obtain ⟨hk, _, h2⟩ := fnd_some h
    exact absurd (h2 ▸ (hM.ok k hk).2.1) ho
theorem odd_left {ts : Vc.Toks} {ms : List Mg4} (hM : Vc.MayM ts ms) {odd : Int} (ho : ¬ Vc.Is ts odd) (r : Int) : fnd ms odd r = none := by
  cases h : fnd ms odd r with
  | none => rfl
  | some k =>
    obtain ⟨hk, h1, _⟩ := fnd_some h
    exact absurd (h1 ▸ (hM.ok k hk).1) ho
theorem mid_left {a b : Row} {odd : Int} {i : Nat} (h : i < a.length) : it (a ++ odd :: b) i = it a i := it_left h
theorem mid_odd (a b : Row) (odd : Int) : it (a ++ odd :: b) a.length = odd := by
  have := it_right (xs := a) (ys := odd :: b) 0
  rw [Nat.add_zero] at this
  rw [this]; rfl
theorem mid_right (a b : Row) (odd : Int) (i : Nat) : it (a ++ odd :: b) (a.length + 1 + i) = it b i := by
  have := it_right (xs := a) (ys := odd :: b) (1 + i)
  rw [show a.length + (1 + i) = a.length + 1 + i by omega] at this
  rw [this, Nat.add_comm]
  rfl
theorem mid_len (a b : Row) (odd : Int) : (a ++ odd :: b).length = a.length + 1 + b.length := by
  rw [List.length_append, List.length_cons]; omega
theorem mid_step {ts : Vc.Toks} {ms : List Mg4} (hM : Vc.MayM ts ms) {odd : Int} (ho : ¬ Vc.Is ts odd) (a b : Row) :
    (step ms (a ++ odd :: b) = none ∧ step ms a = none ∧ step ms b = none) ∨ (∃ a', step ms a = some a' ∧ step ms (a ++ odd :: b) = some (a' ++ odd :: b)) ∨ (∃ b', step ms b = some b' ∧ step ms (a ++ odd :: b) = some (a ++ odd :: b')) := by
  have hl := mid_len a b odd
  cases hb : best ms (a ++ odd :: b) with
  | none =>
    have g := bst_gone hb
    refine .inl ⟨step_none hb, step_none (bst_nil fun i hi => ?_), step_none (bst_nil fun i hi => ?_)⟩
    · have := g i (by omega)
      rwa [mid_left (by omega), mid_left (by omega)] at this
    · have := g (a.length + 1 + i) (by omega)
      rwa [mid_right, Nat.add_assoc (a.length + 1) i 1, mid_right] at this
  | some q =>
    obtain ⟨p, k⟩ := q
    have B := bst_some hb
    have hp := (best_lt hb).1
    have hs := step_some hb
    rcases Nat.lt_trichotomy (p + 1) a.length with c | c | c
    · right; left
      have hba : best ms a = some (p, k) := bst_of ⟨by omega, by have := B.fd; rwa [mid_left (by omega), mid_left (by omega)] at this, fun i k' hi hf => B.all i k' (by omega) (by rw [mid_left (by omega), mid_left (by omega)]; exact hf)⟩
      refine ⟨_, step_some hba, ?_⟩
      rw [hs]
      congr 1
      have e1 := jn_len (mat ms k).2.2.1 c
      apply it_ext
      · rw [jn_len _ hp, mid_len, mid_len, e1]; omega
      · intro i hi
        rw [jn_len _ hp] at hi
        rw [jn_it _ hp]
        by_cases h1 : i < a.length - 1
        · rw [mid_left (a := jn a p _) (by omega), jn_it _ c]
          by_cases h2 : i < p
          · rw [if_pos h2, if_pos h2, mid_left (by omega)]
          · rw [if_neg h2, if_neg h2]
            by_cases h3 : i = p
            · rw [if_pos h3, if_pos h3]
            · rw [if_neg h3, if_neg h3, mid_left (by omega)]
        · rw [if_neg (by omega), if_neg (by omega)]
          obtain ⟨m, rfl⟩ : ∃ m, i = a.length - 1 + m := ⟨i - (a.length - 1), by omega⟩
          have e2 := it_right (xs := jn a p (mat ms k).2.2.1) (ys := odd :: b) m
          rw [e1] at e2
          rw [e2, show a.length - 1 + m + 1 = a.length + m by omega]
          exact it_right (xs := a) (ys := odd :: b) m
    · exfalso
      have := B.fd
      rw [c, mid_odd, odd_right hM ho] at this
      cases this
    · by_cases c2 : p = a.length
      · exfalso
        have := B.fd
        rw [c2, mid_odd, odd_left hM ho] at this
        cases this
      · right; right
        obtain ⟨q, rfl⟩ : ∃ q, p = a.length + 1 + q := ⟨p - (a.length + 1), by omega⟩
        have hq : q + 1 < b.length := by omega
        have hbb : best ms b = some (q, k) := bst_of ⟨by omega, by have := B.fd; rwa [mid_right, Nat.add_assoc (a.length + 1) q 1, mid_right] at this, fun i k' hi hf => by
          have := B.all (a.length + 1 + i) k' (by omega) (by rw [mid_right, Nat.add_assoc (a.length + 1) i 1, mid_right]; exact hf)
          exact ⟨this.1, fun h => this.2 (by omega)⟩⟩
        refine ⟨_, step_some hbb, ?_⟩
        rw [hs]
        congr 1
        have e1 := jn_len (mat ms k).2.2.1 hq
        apply it_ext
        · rw [jn_len _ hp, mid_len, mid_len, e1]; omega
        · intro i hi
          rw [jn_len _ hp] at hi
          rw [jn_it _ hp]
          by_cases h1 : i < a.length
          · rw [if_pos (by omega), mid_left h1, mid_left h1]
          · by_cases h2 : i = a.length
            · rw [if_pos (by omega), h2, mid_odd, mid_odd]
            · obtain ⟨m, rfl⟩ : ∃ m, i = a.length + 1 + m := ⟨i - (a.length + 1), by omega⟩
              rw [mid_right a (jn b q _), jn_it _ hq, mid_right, Nat.add_assoc (a.length + 1) m 1, mid_right]
              by_cases h3 : m < q
              · rw [if_pos (by omega), if_pos h3]
              · rw [if_neg (by omega), if_neg h3]
                by_cases h4 : m = q
                · rw [if_pos (by omega), if_pos h4]
                · rw [if_neg (by omega), if_neg h4]
theorem mid_run {ts : Vc.Toks} {ms : List Mg4} (hM : Vc.MayM ts ms) {odd : Int} (ho : ¬ Vc.Is ts odd) : ∀ n (a b : Row), a.length + b.length ≤ n → run ms (a ++ odd :: b) = run ms a ++ odd :: run ms b
  | n, a, b, h => by
    rcases mid_step hM ho a b with ⟨h0, h1, h2⟩ | ⟨a', h1, h2⟩ | ⟨b', h1, h2⟩
    · rw [run_stop h0, run_stop h1, run_stop h2]
    · have := step_len h1
      match n, h with
      | 0, h => omega
      | n + 1, h => rw [run_step h2, run_step h1, mid_run hM ho n a' b (by omega)]
    · have := step_len h1
      match n, h with
      | 0, h => omega
      | n + 1, h => rw [run_step h2, run_step h1, mid_run hM ho n a b' (by omega)]
end Pr
end Go.Proofs.Ytcjakjmhghoilaa

/-
  The chapter's example, in plain mathematics: the 256 bytes, "ab" and "bc" make a vocabulary of two merges. No program is named here.
-/
namespace Go.Proofs.Ytcjakjmhghoilaa
open Go.RowKit
namespace Vc
def bc : ByteArray := mk [98, 99]
theorem bc_sz : bc.size = 2 := rfl
def fixR2 : Sps := bR 256 ++ [(ab, 256), (bc, 257)]
def fixT2 : Toks := (List.range 256).map one ++ [ab, bc]
def fixM2 : List Mg4 := [((97 : Int), (98 : Int), (256 : Int), (256 : Int)), ((98 : Int), (99 : Int), (257 : Int), (257 : Int))]
theorem ab_bc : ab ≠ bc := fun h => by
  have := mk_inj h
  simp at this
theorem fixR2_len : fixR2.length = 258 := by simp [fixR2, bR_len]
theorem fixT2_len : fixT2.length = 258 := by simp [fixT2]
theorem fixR2_lo {i : Nat} (h : i < 256) : tat fixR2 i = one i ∧ kat fixR2 i = i := by
  have h1 : fixR2[i]? = some (one i, (i : Int)) := by
    unfold fixR2
    rw [List.getElem?_append_left (by rw [bR_len]; exact h)]
    simp [bR, h]
  simp [tat, kat, List.getD_eq_getElem?_getD, h1]
theorem fixR2_a : tat fixR2 256 = ab ∧ kat fixR2 256 = 256 := by
  have h1 : fixR2[256]? = some (ab, 256) := by
    unfold fixR2
    rw [List.getElem?_append_right (by rw [bR_len]; omega), bR_len]
    rfl
  simp [tat, kat, List.getD_eq_getElem?_getD, h1]
theorem fixR2_b : tat fixR2 257 = bc ∧ kat fixR2 257 = 257 := by
  have h1 : fixR2[257]? = some (bc, 257) := by
    unfold fixR2
    rw [List.getElem?_append_right (by rw [bR_len]; omega), bR_len]
    rfl
  simp [tat, kat, List.getD_eq_getElem?_getD, h1]
theorem fixT2_lo {i : Nat} (h : i < 256) : at_ fixT2 i = one i := by
  have h1 : fixT2[i]? = some (one i) := by
    unfold fixT2
    rw [List.getElem?_append_left (by simpa using h)]
    simp [h]
  simp [at_, List.getD_eq_getElem?_getD, h1]
theorem fixT2_a : at_ fixT2 256 = ab := by
  have h1 : fixT2[256]? = some ab := by
    unfold fixT2
    rw [List.getElem?_append_right (by simp)]
    simp
  simp [at_, List.getD_eq_getElem?_getD, h1]
theorem fixT2_b : at_ fixT2 257 = bc := by
  have h1 : fixT2[257]? = some bc := by
    unfold fixT2
    rw [List.getElem?_append_right (by simp)]
    simp
  simp [at_, List.getD_eq_getElem?_getD, h1]
theorem two58 {i : Nat} (h : i < 258) : i < 256 ∨ i = 256 ∨ i = 257 := by omega
theorem fixT2_sz {i : Nat} (h : i < 258) : (at_ fixT2 i).size ≠ 0 ∧ (at_ fixT2 i).size ≤ 2 := by
  rcases two58 h with h | rfl | rfl
  · rw [fixT2_lo h, one_sz]; omega
  · rw [fixT2_a, ab_sz]; omega
  · rw [fixT2_b, bc_sz]; omega
theorem one_two {i : Nat} {s : ByteArray} (hs : s.size = 2) : one i ≠ s := fun h => by
  have := congrArg ByteArray.size h
  rw [one_sz, hs] at this
  omega
theorem fix2_mayT : MayT fixT2 where
  len := by rw [fixT2_len]; omega
  sz := fun i hi => by
    rw [fixT2_len] at hi
    have := (fixT2_sz hi).2
    omega
  apart := fun i j hi hj _ he => by
    rw [fixT2_len] at hi hj
    rcases two58 hi with h | rfl | rfl
    · rcases two58 hj with k | rfl | rfl
      · rw [fixT2_lo h, fixT2_lo k] at he
        exact one_inj h k he
      · rw [fixT2_lo h, fixT2_a] at he; exact absurd he (one_two ab_sz)
      · rw [fixT2_lo h, fixT2_b] at he; exact absurd he (one_two bc_sz)
    · rcases two58 hj with k | rfl | rfl
      · rw [fixT2_lo k, fixT2_a] at he; exact absurd he.symm (one_two ab_sz)
      · rfl
      · rw [fixT2_a, fixT2_b] at he; exact absurd he ab_bc
    · rcases two58 hj with k | rfl | rfl
      · rw [fixT2_lo k, fixT2_b] at he; exact absurd he.symm (one_two bc_sz)
      · rw [fixT2_a, fixT2_b] at he; exact absurd he.symm ab_bc
      · rfl
  all := fun b hb => ⟨b, by rw [fixT2_len]; omega, fixT2_lo hb⟩
theorem fix2_num {i : Nat} (h : i < 256) : num fixT2 (one i) = some i := by
  have := num_at fix2_mayT (i := i) (by rw [fixT2_len]; omega) (fixT2_sz (by omega)).1
  rwa [fixT2_lo h] at this
theorem fix2_cuts : cutsL fixT2 258 = fixM2 := by
  have h0 : ∀ n, n ≤ 256 → cutsL fixT2 n = [] := by
    intro n
    induction n with
    | zero => intro _; rfl
    | succ n ih =>
      intro h
      rw [cutsL, ih (by omega), fixT2_lo (show n < 256 by omega), one_sz]
      rfl
  have e1 : ab.extract 0 1 = one 97 := by apply by_inj; rw [by_extract]; rfl
  have e2 : ab.extract 1 2 = one 98 := by apply by_inj; rw [by_extract]; rfl
  have e3 : bc.extract 0 1 = one 98 := by apply by_inj; rw [by_extract]; rfl
  have e4 : bc.extract 1 2 = one 99 := by apply by_inj; rw [by_extract]; rfl
  have c1 : cutAt fixT2 256 1 = [((97 : Int), (98 : Int), (256 : Int), (256 : Int))] := by
    unfold cutAt
    rw [fixT2_a, ab_sz, e1, e2, fix2_num (by omega), fix2_num (by omega)]
    rfl
  have c2 : cutAt fixT2 257 1 = [((98 : Int), (99 : Int), (257 : Int), (257 : Int))] := by
    unfold cutAt
    rw [fixT2_b, bc_sz, e3, e4, fix2_num (by omega), fix2_num (by omega)]
    rfl
  have h1 : cutsL fixT2 257 = [((97 : Int), (98 : Int), (256 : Int), (256 : Int))] := by
    rw [cutsL, h0 256 (Nat.le_refl _), fixT2_a, ab_sz]
    show [] ++ ([] ++ cutAt fixT2 256 1) = _
    rw [c1]
    rfl
  rw [cutsL, h1, fixT2_b, bc_sz]
  show [_] ++ ([] ++ cutAt fixT2 257 1) = _
  rw [c2]
  rfl
theorem fix2_is {i : Nat} (h : i < 258) : Is fixT2 (i : Int) := ⟨by omega, by rw [fixT2_len]; omega, by rw [Int.toNat_natCast]; exact (fixT2_sz h).1⟩
theorem fix2_kat {i : Nat} (h : i < 258) : kat fixR2 i = i := by
  rcases two58 h with h | rfl | rfl
  · exact (fixR2_lo h).2
  · exact fixR2_a.2
  · exact fixR2_b.2
theorem fix2_from : FromIs fixR2 [] fixT2 fixM2 [] where
  ranks := ⟨fun i hi => by
      rw [fixR2_len] at hi
      rw [fix2_kat hi]; exact ⟨by omega, by omega⟩, fun i hi => by simp at hi, fun i j hij hj => by
      rw [fixR2_len] at hj
      rw [fix2_kat hj, fix2_kat (by omega)]; omega⟩
  tok := ⟨⟨fun i hi => by
      rw [fixR2_len] at hi
      rw [fixT2_len, fix2_kat hi]; omega, fun i hi => by simp at hi, .inr (.inl ⟨257, by rw [fixR2_len]; omega, by rw [fixR2_b.2, fixT2_len]; rfl⟩)⟩, fun i hi => by
      rw [fixR2_len] at hi
      rw [fix2_kat hi, Int.toNat_natCast]
      rcases two58 hi with h | rfl | rfl
      · rw [(fixR2_lo h).1, fixT2_lo h]
      · rw [fixR2_a.1, fixT2_a]
      · rw [fixR2_b.1, fixT2_b], fun k hk hno => by
      rw [fixT2_len] at hk
      exact absurd (fix2_kat hk) (hno k (by rw [fixR2_len]; exact hk))⟩
  cuts := ⟨by rw [fixT2_len, fix2_cuts], by simp [fixM2, Ahead]⟩
  sps := ⟨List.Perm.refl _, List.Pairwise.nil⟩
  may := ⟨fix2_mayT, ⟨by simp [fixM2], fun i hi => by
      have h2 : i = 0 ∨ i = 1 := by simp [fixM2] at hi; omega
      rcases h2 with rfl | rfl
      · refine ⟨fix2_is (i := 97) (by omega), fix2_is (i := 98) (by omega), fix2_is (i := 256) (by omega), ?_, by simp [mat, fixM2], by simp [mat, fixM2]⟩
        show at_ fixT2 256 = at_ fixT2 97 ++ at_ fixT2 98
        rw [fixT2_a, fixT2_lo (by omega), fixT2_lo (by omega)]
        rfl
      · refine ⟨fix2_is (i := 98) (by omega), fix2_is (i := 99) (by omega), fix2_is (i := 257) (by omega), ?_, by simp [mat, fixM2], by simp [mat, fixM2]⟩
        show at_ fixT2 257 = at_ fixT2 98 ++ at_ fixT2 99
        rw [fixT2_b, fixT2_lo (by omega), fixT2_lo (by omega)]
        rfl, fun i j hij hj => by
      have h2 : i = 0 ∧ j = 1 := by simp [fixM2] at hj; omega
      obtain ⟨rfl, rfl⟩ := h2
      simp [mat, fixM2, Both, Ahead]⟩, fun i hi => by
      rw [fixT2_len] at hi
      rcases two58 hi with h | rfl | rfl
      · left; rw [fixT2_lo h, one_sz]; omega
      · exact .inr ⟨0, by simp [fixM2], by simp [mat, fixM2]⟩
      · exact .inr ⟨1, by simp [fixM2], by simp [mat, fixM2]⟩, ⟨by simp, fun i hi => by simp at hi, fun i j _ hj => by simp at hj⟩⟩
theorem fixR2_size (i : Nat) (hi : i < fixR2.length) : (tat fixR2 i).size ≤ 2 := by
  rw [fixR2_len] at hi
  rcases two58 hi with h | rfl | rfl
  · rw [(fixR2_lo h).1, one_sz]; omega
  · rw [fixR2_a.1, ab_sz]; omega
  · rw [fixR2_b.1, bc_sz]; omega
theorem fix2_run1 : Pr.run fixM2 [97, 98, 99] = [256, 99] := by decide
theorem fix2_run2 : Pr.run fixM2 [98, 99, 98] = [257, 98] := by decide
/-- The rows of tokens behind the bytes. -/
def lR (xs : Toks) (n : Nat) : Sps := bR 256 ++ (List.range n).map (fun i => (at_ xs i, 256 + (i : Int)))
theorem lR_succ (xs : Toks) (n : Nat) : lR xs (n + 1) = lR xs n ++ [(at_ xs n, 256 + (n : Int))] := by simp [lR, List.range_succ]
theorem lR_fix : lR [ab, bc] 2 = fixR2 := rfl
theorem lR_len (xs : Toks) (n : Nat) : (lR xs n).length = 256 + n := by simp [lR, bR_len]
end Vc
end Go.Proofs.Ytcjakjmhghoilaa
