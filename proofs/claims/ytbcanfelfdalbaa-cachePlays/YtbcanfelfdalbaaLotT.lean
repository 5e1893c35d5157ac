/-
  Several texts in one: Ts, BxF, BxT, Rk, CaMath, CaX, CaSv.
-/
import Derived.Test.YtbcanfelfdalbaaLotG
import Derived.RangeFuncBox
/-
  Rows of texts: what lies in memory, told by lists of strings; and strings as lists of bytes. No program is named here.
-/
namespace Go.Proofs.Ytbcanfelfdalbaa
open Go.RowKit

/-- Texts as values. -/
def tv (xs : List ByteArray) : List Value := xs.map Value.string
theorem tv_length (xs : List ByteArray) : (tv xs).length = xs.length := by simp [tv]
theorem tv_append (xs ys : List ByteArray) : tv xs ++ tv ys = tv (xs ++ ys) := by simp [tv]
theorem tv_one (xs : List ByteArray) : ∀ u ∈ tv xs, u.oneCell' = true := by
  intro u hu
  simp only [tv, List.mem_map] at hu
  obtain ⟨i, _, rfl⟩ := hu
  rfl
/-- The text at a place. -/
def at_ (xs : List ByteArray) (i : Nat) : ByteArray := xs.getD i ⟨#[]⟩
theorem tv_get (xs : List ByteArray) (i : Nat) (h : i < xs.length) : (tv xs)[i]? = some (.string (at_ xs i)) := by simp [tv, at_, h]

/-- A slice of texts: nil, or it leads to cells that hold them. -/
structure Ts (w : World) (a : Option Addr) (n cap : Nat) (xs : List ByteArray) : Prop where
  len : xs.length = n
  le : n ≤ cap
  mx : cap ≤ maxLen
  nil : a = none → n = 0 ∧ cap = 0
  at' : 0 < n → ∃ b off, a = some ⟨b, off, none⟩ ∧ b < w.heap.size ∧ ∀ i, i < n → w.cell? ⟨b, off + i, none⟩ = some (.string (at_ xs i))
theorem Ts.below {w w' : World} {a : Option Addr} {n cap : Nat} {xs : List ByteArray} (h : Ts w a n cap xs) (hb : Below w.heap.size w w') : Ts w' a n cap xs :=
  ⟨h.len, h.le, h.mx, h.nil, fun hn => by
    obtain ⟨b, off, rfl, hlt, hc⟩ := h.at' hn
    exact ⟨b, off, rfl, Nat.lt_of_lt_of_le hlt hb.size, fun i hi => by rw [hb.cell (p := ⟨b, off + i, none⟩) hlt]; exact hc i hi⟩⟩
/-- A row of the call's own as a slice of texts. -/
theorem Ts.ofOwn {w : World} {base : Nat} {e : TypeId} {v : Value} {n : Nat} {xs : List ByteArray} (h : w.ownsRow base e 1 v n (tv xs)) : ∃ a cap, v = .slice a n cap ∧ Ts w a n cap xs := by
  obtain ⟨hl, h⟩ := h
  rw [tv_length, Nat.mul_one] at hl
  rcases h with ⟨rfl, rfl⟩ | ⟨g, cap, cur, rfl, hb, hg, hn, hm, hs, ht⟩
  · exact ⟨none, 0, rfl, hl, by omega, Nat.zero_le _, fun _ => ⟨rfl, rfl⟩, fun h => absurd h (by omega)⟩
  · refine ⟨_, cap, rfl, hl, hn, hm, fun h => absurd h (by simp), fun h0 => ⟨g, 0, rfl, (Array.getElem?_eq_some_iff.1 hg).1, fun i hi => ?_⟩⟩
    have e1 : (cur.toList.take (n * 1))[i]? = some (.string (at_ xs i)) := by rw [ht]; exact tv_get xs i (by omega)
    rw [List.getElem?_take_of_lt (by omega)] at e1
    have e2 : cur[i]? = some (.string (at_ xs i)) := by simpa using e1
    simp [World.cell?, hg, e2]
theorem Ts.ofOwn' {w : World} {base : Nat} {e : TypeId} {a : Option Addr} {n cap : Nat} {xs : List ByteArray} (h : w.ownsRow base e 1 (.slice a n cap) n (tv xs)) : Ts w a n cap xs := by
  obtain ⟨a2, c2, e2, h2⟩ := Ts.ofOwn h
  cases e2
  exact h2
/-- A slice of texts as what is appended. -/
theorem Ts.src {w : World} {a : Option Addr} {n cap : Nat} {xs : List ByteArray} (h : Ts w a n cap xs) : Src w a n cap 1 (tv xs) :=
  ⟨by rw [tv_length, h.len, Nat.mul_one], tv_one xs, h.nil, fun ad ha j u hu => by
    have hj : j < n := by
      have := (List.getElem?_eq_some_iff.1 hu).1
      rwa [tv_length, h.len] at this
    rw [tv_get xs j (by rw [h.len]; exact hj)] at hu
    cases hu
    obtain ⟨b, off, hab, _, hc⟩ := h.at' (by omega)
    rw [ha] at hab
    cases hab
    rw [Addr.add_lit]
    exact hc j hj⟩
theorem at_ext {xs ys : List ByteArray} (hl : xs.length = ys.length) (h : ∀ i, i < xs.length → at_ xs i = at_ ys i) : xs = ys := by
  apply List.ext_getElem hl
  intro i h1 h2
  have := h i h1
  simpa [at_, h1, h2] using this

/-! ### Strings as lists of bytes -/
def mk (l : List UInt8) : ByteArray := ⟨l.toArray⟩
def by_ (s : ByteArray) : List UInt8 := s.data.toList
theorem mk_by (s : ByteArray) : mk (by_ s) = s := by simp [mk, by_]
theorem by_mk (l : List UInt8) : by_ (mk l) = l := by simp [mk, by_]
theorem mk_inj {a b : List UInt8} (h : mk a = mk b) : a = b := by rw [← by_mk a, ← by_mk b, h]
theorem by_inj {a b : ByteArray} (h : by_ a = by_ b) : a = b := by rw [← mk_by a, ← mk_by b, h]
theorem by_length (s : ByteArray) : (by_ s).length = s.size := Array.length_toList
theorem mk_size (l : List UInt8) : (mk l).size = l.length := List.size_toArray
theorem by_toList (s : ByteArray) : s.toList = by_ s := by rw [ByteArray.toList_eq]; rfl
theorem by_append (s t : ByteArray) : by_ (s ++ t) = by_ s ++ by_ t := by simp [by_]
theorem mk_append (a b : List UInt8) : mk a ++ mk b = mk (a ++ b) := by apply by_inj; rw [by_append, by_mk, by_mk, by_mk]
theorem mk_map_inj {a b : List (List UInt8)} (h : a.map mk = b.map mk) : a = b := by
  have := congrArg (List.map by_) h
  simpa [List.map_map, Function.comp_def, by_mk] using this
theorem by_extract (s : ByteArray) (i j : Nat) : by_ (s.extract i j) = ((by_ s).take j).drop i := by
  simp [by_, ByteArray.data_extract, List.drop_take]
theorem by_get {s : ByteArray} {i : Nat} (h : i < s.size) : ∃ x : UInt8, (by_ s).drop i = x :: (by_ s).drop (i + 1) ∧ (x.toNat : Int) = bytesF s i ∧ (by_ s)[i]? = some x := by
  have hl : i < (by_ s).length := by rw [by_length]; exact h
  refine ⟨(by_ s)[i], List.drop_eq_getElem_cons hl, ?_, List.getElem?_eq_getElem hl⟩
  have hg := (St.any s).get i h
  rw [← hg]
  rfl
end Go.Proofs.Ytbcanfelfdalbaa

/-
  A block of four cells (a struct's), as it lies and as it is written; rows of the call's own over writes into other blocks. No program is named here.
-/
namespace Go.Proofs.Ytbcanfelfdalbaa
open Go.RowKit

theorem grown_setCell (W : World) (b o : Nat) (v : Value) : W.grownBy (W.setCell ⟨b, o, none⟩ v) (some b) :=
  ⟨rfl, rfl, rfl, (KeepsWalks.setCell W _ v).size, fun k _ hk => Below.heap_setCell _ _ _ k (fun e => hk (by rw [e]))⟩
def Bx4 (W : World) (B : Nat) (t : TypeId) (x y z u : Value) : Prop := W.heap[B]? = some (.cells #[x, y, z, u] t (0, 0))
section
variable {W : World} {B : Nat} {t : TypeId} {x y z u : Value}
theorem Bx4.lt (h : Bx4 W B t x y z u) : B < W.heap.size := (Array.getElem?_eq_some_iff.1 h).1
theorem Bx4.cell0 (h : Bx4 W B t x y z u) : W.cell? ⟨B, 0, none⟩ = some x := by simp [World.cell?, show W.heap[B]? = _ from h]
theorem Bx4.cell1 (h : Bx4 W B t x y z u) : W.cell? ⟨B, 1, none⟩ = some y := by simp [World.cell?, show W.heap[B]? = _ from h]
theorem Bx4.cell2 (h : Bx4 W B t x y z u) : W.cell? ⟨B, 2, none⟩ = some z := by simp [World.cell?, show W.heap[B]? = _ from h]
theorem Bx4.cell3 (h : Bx4 W B t x y z u) : W.cell? ⟨B, 3, none⟩ = some u := by simp [World.cell?, show W.heap[B]? = _ from h]
theorem Bx4.fr (h : Bx4 W B t x y z u) (j : Nat) : W.frozen? ⟨B, j, none⟩ = false := by simp [World.frozen?, show W.heap[B]? = _ from h]
theorem Bx4.new (W : World) (t : TypeId) (x y z u : Value) : Bx4 (W.alloc (.cells #[x, y, z, u] t)) W.heap.size t x y z u := World.alloc_heap_new W _
theorem Bx4.below {W' : World} {n : Nat} (h : Bx4 W B t x y z u) (hb : Below n W W') (hn : B < n) : Bx4 W' B t x y z u := (hb.block B hn).trans h
theorem Bx4.alloc (h : Bx4 W B t x y z u) (o : Obj) : Bx4 (W.alloc o) B t x y z u := (Below.heap_alloc _ _ _ h.lt).trans h
theorem Bx4.mut {W' : World} {S : Nat → Prop} (h : Bx4 W B t x y z u) (hm : Mut S W W') (hn : ¬ S B) : Bx4 W' B t x y z u := (hm.block B h.lt hn).trans h
theorem Bx4.kept {W' : World} {row : Option Nat} (h : Bx4 W B t x y z u) (hg : W.grownBy W' row) (hne : some B ≠ row) : Bx4 W' B t x y z u := (hg.block B h.lt hne).trans h
theorem Bx4.set0 (h : Bx4 W B t x y z u) (v : Value) : Bx4 (W.setCell ⟨B, 0, none⟩ v) B t v y z u := by
  obtain ⟨hlt, hk⟩ := Array.getElem?_eq_some_iff.1 h
  show (W.heap.modify B _)[B]? = _
  rw [Array.getElem?_eq_getElem (by rw [Array.size_modify]; exact hlt), Array.getElem_modify_self, hk]
  rfl
theorem Bx4.set1 (h : Bx4 W B t x y z u) (v : Value) : Bx4 (W.setCell ⟨B, 1, none⟩ v) B t x v z u := by
  obtain ⟨hlt, hk⟩ := Array.getElem?_eq_some_iff.1 h
  show (W.heap.modify B _)[B]? = _
  rw [Array.getElem?_eq_getElem (by rw [Array.size_modify]; exact hlt), Array.getElem_modify_self, hk]
  rfl
theorem Bx4.set2 (h : Bx4 W B t x y z u) (v : Value) : Bx4 (W.setCell ⟨B, 2, none⟩ v) B t x y v u := by
  obtain ⟨hlt, hk⟩ := Array.getElem?_eq_some_iff.1 h
  show (W.heap.modify B _)[B]? = _
  rw [Array.getElem?_eq_getElem (by rw [Array.size_modify]; exact hlt), Array.getElem_modify_self, hk]
  rfl
theorem Bx4.set3 (h : Bx4 W B t x y z u) (v : Value) : Bx4 (W.setCell ⟨B, 3, none⟩ v) B t x y z v := by
  obtain ⟨hlt, hk⟩ := Array.getElem?_eq_some_iff.1 h
  show (W.heap.modify B _)[B]? = _
  rw [Array.getElem?_eq_getElem (by rw [Array.size_modify]; exact hlt), Array.getElem_modify_self, hk]
  rfl
end
theorem Bx4.drew {W : World} {B : Nat} {t : TypeId} {x y z u : Value} (h : Bx4 W B t x y z u) : Bx4 W.drew B t x y z u := h
/-- A row of the call's own over a write into another block. -/
theorem own_set {W : World} {base : Nat} {e : TypeId} {size : Nat} {v : Value} {n B j : Nat} {xs : List Value} (h : W.ownsRow base e size v n xs) (hB : v.ownBlock ≠ some B) (x : Value) : (W.setCell ⟨B, j, none⟩ x).ownsRow base e size v n xs :=
  h.kept (grown_setCell W B j x) (.inr hB)
theorem own_block {W : World} {base : Nat} {e : TypeId} {size : Nat} {v : Value} {n B : Nat} {xs : List Value} (h : W.ownsRow base e size v n xs) (hB : B < base) : v.ownBlock ≠ some B := fun e => by have := (h.lt B e).1; omega
theorem own_mut {W W' : World} {S : Nat → Prop} {base : Nat} {e : TypeId} {size : Nat} {v : Value} {n : Nat} {xs : List Value} (h : W.ownsRow base e size v n xs) (hm : Mut S W W') (hn : ∀ k, v.ownBlock = some k → ¬ S k) : W'.ownsRow base e size v n xs := by
  refine ⟨h.1, ?_⟩
  rcases h.2 with q | ⟨g, cap, cur, hv, hB, hg, rest⟩
  · exact .inl q
  · refine .inr ⟨g, cap, cur, hv, hB, ?_, rest⟩
    rw [hm.block g (Array.getElem?_eq_some_iff.1 hg).1 (hn g (by rw [hv]; rfl))]
    exact hg
/-- The frame of an append to a row of the call's own above M. -/
theorem Mut.grown {S : Nat → Prop} {a b c : World} {row : Option Nat} (h : Mut S a b) (hg : b.grownBy c row) (hr : ∀ k, row = some k → S k) : Mut S a c :=
  ⟨hg.os.trans h.os, hg.tape.trans h.tape, hg.output.trans h.output, Nat.le_trans h.size hg.size, fun k hk hn => (hg.block k (Nat.lt_of_lt_of_le hk h.size) (fun e => hn (hr k e.symm))).trans (h.block k hk hn)⟩
theorem Mut.alloc {S : Nat → Prop} {a b : World} (h : Mut S a b) (o : Obj) : Mut S a (b.alloc o) :=
  h.trans (Mut.ofBelow ((Below.refl _ b).alloc (Nat.le_refl _) o) S) (fun _ _ e => e)
theorem Mut.setCell {S : Nat → Prop} {a b : World} (h : Mut S a b) (B j : Nat) (v : Value) (hB : S B) : Mut S a (b.setCell ⟨B, j, none⟩ v) :=
  h.trans (Mut.set b B j v (S := S) hB) (fun _ _ e => e)
theorem Mut.then_below {S : Nat → Prop} {a b c : World} (h : Mut S a b) (k : Below b.heap.size b c) : Mut S a c := h.trans (Mut.ofBelow k S) (fun _ _ e => e)

end Go.Proofs.Ytbcanfelfdalbaa

/-
  A block of three cells (a struct's), as it lies and as it is written (split off Vc). No program is named here.
-/
namespace Go.Proofs.Ytbcanfelfdalbaa
open Go.RowKit
set_option linter.unusedVariables false

def Bx3 (W : World) (B : Nat) (t : TypeId) (x y z : Value) : Prop := W.heap[B]? = some (.cells #[x, y, z] t (0, 0))
section
variable {W : World} {B : Nat} {t : TypeId} {x y z : Value}
theorem Bx3.lt (h : Bx3 W B t x y z) : B < W.heap.size := (Array.getElem?_eq_some_iff.1 h).1
theorem Bx3.cell0 (h : Bx3 W B t x y z) : W.cell? ⟨B, 0, none⟩ = some x := by simp [World.cell?, show W.heap[B]? = _ from h]
theorem Bx3.cell1 (h : Bx3 W B t x y z) : W.cell? ⟨B, 1, none⟩ = some y := by simp [World.cell?, show W.heap[B]? = _ from h]
theorem Bx3.cell2 (h : Bx3 W B t x y z) : W.cell? ⟨B, 2, none⟩ = some z := by simp [World.cell?, show W.heap[B]? = _ from h]
theorem Bx3.fr (h : Bx3 W B t x y z) (j : Nat) : W.frozen? ⟨B, j, none⟩ = false := by simp [World.frozen?, show W.heap[B]? = _ from h]
theorem Bx3.new (W : World) (t : TypeId) (x y z : Value) : Bx3 (W.alloc (.cells #[x, y, z] t)) W.heap.size t x y z := World.alloc_heap_new W _
theorem Bx3.below {W' : World} {n : Nat} (h : Bx3 W B t x y z) (hb : Below n W W') (hn : B < n) : Bx3 W' B t x y z := (hb.block B hn).trans h
theorem Bx3.alloc (h : Bx3 W B t x y z) (o : Obj) : Bx3 (W.alloc o) B t x y z := (Below.heap_alloc _ _ _ h.lt).trans h
theorem Bx3.kept {W' : World} {row : Option Nat} (h : Bx3 W B t x y z) (hg : W.grownBy W' row) (hne : some B ≠ row) : Bx3 W' B t x y z := (hg.block B h.lt hne).trans h
theorem Bx3.mut {W' : World} {S : Nat → Prop} (h : Bx3 W B t x y z) (hm : Mut S W W') (hn : ¬ S B) : Bx3 W' B t x y z := (hm.block B h.lt hn).trans h
theorem Bx3.drew (h : Bx3 W B t x y z) : Bx3 W.drew B t x y z := h
theorem Bx3.other {D j : Nat} (h : Bx3 W B t x y z) (hne : B ≠ D) (v : Value) : Bx3 (W.setCell ⟨D, j, none⟩ v) B t x y z :=
  (Below.heap_setCell _ _ _ _ (by simpa using hne)).trans h
theorem Bx3.set0 (h : Bx3 W B t x y z) (v : Value) : Bx3 (W.setCell ⟨B, 0, none⟩ v) B t v y z := by
  obtain ⟨hlt, hk⟩ := Array.getElem?_eq_some_iff.1 h
  show (W.heap.modify B _)[B]? = _
  rw [Array.getElem?_eq_getElem (by rw [Array.size_modify]; exact hlt), Array.getElem_modify_self, hk]
  rfl
theorem Bx3.set1 (h : Bx3 W B t x y z) (v : Value) : Bx3 (W.setCell ⟨B, 1, none⟩ v) B t x v z := by
  obtain ⟨hlt, hk⟩ := Array.getElem?_eq_some_iff.1 h
  show (W.heap.modify B _)[B]? = _
  rw [Array.getElem?_eq_getElem (by rw [Array.size_modify]; exact hlt), Array.getElem_modify_self, hk]
  rfl
theorem Bx3.set2 (h : Bx3 W B t x y z) (v : Value) : Bx3 (W.setCell ⟨B, 2, none⟩ v) B t x y v := by
  obtain ⟨hlt, hk⟩ := Array.getElem?_eq_some_iff.1 h
  show (W.heap.modify B _)[B]? = _
  rw [Array.getElem?_eq_getElem (by rw [Array.size_modify]; exact hlt), Array.getElem_modify_self, hk]
  rfl
end
/-- All three cells of a block written. -/
def three (W : World) (R : Nat) (x y z : Value) : World := ((W.setCell ⟨R, 0, none⟩ x).setCell ⟨R, 1, none⟩ y).setCell ⟨R, 2, none⟩ z
theorem Bx3.three {W : World} {B : Nat} {t : TypeId} {a b c : Value} (h : Bx3 W B t a b c) (x y z : Value) : Bx3 (three W B x y z) B t x y z := ((h.set0 x).set1 y).set2 z
theorem below_three {w W : World} {n R : Nat} (h : Below n w W) (hR : n ≤ R) (x y z : Value) : Below n w (three W R x y z) :=
  ((h.setCell (p := ⟨R, 0, none⟩) hR x).setCell (p := ⟨R, 1, none⟩) hR y).setCell (p := ⟨R, 2, none⟩) hR z
end Go.Proofs.Ytbcanfelfdalbaa

/-
  A block of two cells (a struct's), as it lies and as it is written; rows of a file of ranks in memory: a text and a number each. No program is named here.
-/
namespace Go.Proofs.Ytbcanfelfdalbaa
open Go.RowKit

def Bx2 (W : World) (B : Nat) (t : TypeId) (x y : Value) : Prop := W.heap[B]? = some (.cells #[x, y] t (0, 0))
section
variable {W : World} {B : Nat} {t : TypeId} {x y : Value}
theorem Bx2.lt (h : Bx2 W B t x y) : B < W.heap.size := (Array.getElem?_eq_some_iff.1 h).1
theorem Bx2.cell0 (h : Bx2 W B t x y) : W.cell? ⟨B, 0, none⟩ = some x := by simp [World.cell?, show W.heap[B]? = _ from h]
theorem Bx2.cell1 (h : Bx2 W B t x y) : W.cell? ⟨B, 1, none⟩ = some y := by simp [World.cell?, show W.heap[B]? = _ from h]
theorem Bx2.fr0 (h : Bx2 W B t x y) : W.frozen? ⟨B, 0, none⟩ = false := by simp [World.frozen?, show W.heap[B]? = _ from h]
theorem Bx2.fr1 (h : Bx2 W B t x y) : W.frozen? ⟨B, 1, none⟩ = false := by simp [World.frozen?, show W.heap[B]? = _ from h]
theorem Bx2.new (W : World) (t : TypeId) (x y : Value) : Bx2 (W.alloc (.cells #[x, y] t)) W.heap.size t x y := World.alloc_heap_new W _
theorem Bx2.below {W' : World} {n : Nat} (h : Bx2 W B t x y) (hb : Below n W W') (hn : B < n) : Bx2 W' B t x y := (hb.block B hn).trans h
theorem Bx2.alloc (h : Bx2 W B t x y) (o : Obj) : Bx2 (W.alloc o) B t x y := (Below.heap_alloc _ _ _ h.lt).trans h
theorem Bx2.set0 (h : Bx2 W B t x y) (x' : Value) : Bx2 (W.setCell ⟨B, 0, none⟩ x') B t x' y := by
  obtain ⟨hlt, hk⟩ := Array.getElem?_eq_some_iff.1 h
  show (W.heap.modify B _)[B]? = _
  rw [Array.getElem?_eq_getElem (by rw [Array.size_modify]; exact hlt), Array.getElem_modify_self, hk]
  rfl
theorem Bx2.set1 (h : Bx2 W B t x y) (y' : Value) : Bx2 (W.setCell ⟨B, 1, none⟩ y') B t x y' := by
  obtain ⟨hlt, hk⟩ := Array.getElem?_eq_some_iff.1 h
  show (W.heap.modify B _)[B]? = _
  rw [Array.getElem?_eq_getElem (by rw [Array.size_modify]; exact hlt), Array.getElem_modify_self, hk]
  rfl
/-- What a row of the call's own, of another kind, leaves of it. -/
theorem Bx2.kept {W' : World} {row : Option Nat} (h : Bx2 W B t x y) (hg : W.grownBy W' row) (hne : some B ≠ row) : Bx2 W' B t x y := (hg.block B h.lt hne).trans h
end
/-- Both cells of a new block written: old memory is as it was. -/
theorem below_two {w W : World} {n B : Nat} (h : Below n w W) (hB : n ≤ B) (x y : Value) : Below n w ((W.setCell ⟨B, 0, none⟩ x).setCell ⟨B, 1, none⟩ y) :=
  (h.setCell (p := ⟨B, 0, none⟩) hB x).setCell (p := ⟨B, 1, none⟩) hB y
theorem cell_alloc {W : World} {p : Addr} {v : Value} (h : W.cell? p = some v) (o : Obj) : (W.alloc o).cell? p = some v := by
  rw [((Below.refl W.heap.size W).alloc (Nat.le_refl _) o).cell (World.block_lt_of_cell? _ _ h)]
  exact h
/-- A row of the call's own over both writes into another block. -/
theorem own_two {W : World} {base : Nat} {e : TypeId} {size : Nat} {v : Value} {n B : Nat} {xs : List Value} (h : W.ownsRow base e size v n xs) (hB : B < base) (x y : Value) : ((W.setCell ⟨B, 0, none⟩ x).setCell ⟨B, 1, none⟩ y).ownsRow base e size v n xs :=
  have hne : v.ownBlock ≠ some B := fun e => by have := (h.lt B e).1; omega
  (h.kept (grown_setCell W B 0 x) (.inr hne)).kept (grown_setCell _ B 1 y) (.inr hne)

/-- Rows as values. -/
def rv (xs : List (ByteArray × Int)) : List Value := xs.flatMap fun x => [.string x.1, .int .i64 x.2]
theorem rv_length (xs : List (ByteArray × Int)) : (rv xs).length = xs.length * 2 := by
  induction xs with
  | nil => rfl
  | cons x xs ih => simp only [rv, List.flatMap_cons, List.length_append, List.length_cons, List.length_nil] at ih ⊢; omega
theorem rv_append (xs ys : List (ByteArray × Int)) : rv xs ++ rv ys = rv (xs ++ ys) := by simp [rv]
theorem rv_snoc (xs : List (ByteArray × Int)) (t : ByteArray) (k : Int) : rv xs ++ [.string t, .int .i64 k] = rv (xs ++ [(t, k)]) := by rw [← rv_append]; rfl
theorem rv_one (xs : List (ByteArray × Int)) : ∀ u ∈ rv xs, u.oneCell' = true := by
  intro u hu
  simp only [rv, List.mem_flatMap] at hu
  obtain ⟨i, _, hi⟩ := hu
  simp at hi
  rcases hi with rfl | rfl <;> rfl
/-- The row at a place. -/
def tat (xs : List (ByteArray × Int)) (i : Nat) : ByteArray := (xs.getD i (⟨#[]⟩, 0)).1
def kat (xs : List (ByteArray × Int)) (i : Nat) : Int := (xs.getD i (⟨#[]⟩, 0)).2
theorem rv_get : ∀ (xs : List (ByteArray × Int)) (i : Nat), i < xs.length → (rv xs)[i * 2]? = some (.string (tat xs i)) ∧ (rv xs)[i * 2 + 1]? = some (.int .i64 (kat xs i))
  | [], i, h => by simp at h
  | x :: xs, 0, h => ⟨rfl, rfl⟩
  | x :: xs, i + 1, h => by
    have ih := rv_get xs i (by simpa using h)
    have e1 : (i + 1) * 2 = i * 2 + 1 + 1 := by omega
    rw [e1]
    exact ih
theorem rv_inv {xs : List (ByteArray × Int)} {j : Nat} {u : Value} (h : (rv xs)[j]? = some u) : ∃ i, i < xs.length ∧ ((j = i * 2 ∧ u = .string (tat xs i)) ∨ (j = i * 2 + 1 ∧ u = .int .i64 (kat xs i))) := by
  have hj : j < xs.length * 2 := by
    have := (List.getElem?_eq_some_iff.1 h).1
    rwa [rv_length] at this
  obtain ⟨e0, e1⟩ := rv_get xs (j / 2) (by omega)
  refine ⟨j / 2, by omega, ?_⟩
  obtain h3 | h3 : j = j / 2 * 2 ∨ j = j / 2 * 2 + 1 := by omega
  · rw [← h3] at e0; rw [e0] at h; exact .inl ⟨h3, (Option.some.inj h).symm⟩
  · rw [← h3] at e1; rw [e1] at h; exact .inr ⟨h3, (Option.some.inj h).symm⟩
theorem rat_ext {xs ys : List (ByteArray × Int)} (hl : xs.length = ys.length) (h : ∀ i, i < xs.length → tat xs i = tat ys i ∧ kat xs i = kat ys i) : xs = ys := by
  apply List.ext_getElem hl
  intro i h1 h2
  have := h i h1
  simp [tat, kat, h1, h2] at this
  exact Prod.ext this.1 this.2

/-- A slice of rows: nil, or it leads to cells that hold them. -/
structure Rw (w : World) (a : Option Addr) (n cap : Nat) (xs : List (ByteArray × Int)) : Prop where
  len : xs.length = n
  le : n ≤ cap
  mx : cap ≤ maxLen
  nil : a = none → n = 0 ∧ cap = 0
  at' : 0 < n → ∃ b off, a = some ⟨b, off, none⟩ ∧ b < w.heap.size ∧ ∀ i, i < n → w.cell? ⟨b, off + i * 2, none⟩ = some (.string (tat xs i)) ∧ w.cell? ⟨b, off + i * 2 + 1, none⟩ = some (.int .i64 (kat xs i))
theorem Rw.below {w w' : World} {a : Option Addr} {n cap : Nat} {xs : List (ByteArray × Int)} (h : Rw w a n cap xs) (hb : Below w.heap.size w w') : Rw w' a n cap xs :=
  ⟨h.len, h.le, h.mx, h.nil, fun hn => by
    obtain ⟨b, off, rfl, hlt, hc⟩ := h.at' hn
    exact ⟨b, off, rfl, Nat.lt_of_lt_of_le hlt hb.size, fun i hi => ⟨by rw [hb.cell (p := ⟨b, off + i * 2, none⟩) hlt]; exact (hc i hi).1, by rw [hb.cell (p := ⟨b, off + i * 2 + 1, none⟩) hlt]; exact (hc i hi).2⟩⟩⟩
/-- The first rows of a slice. -/
theorem Rw.first {w : World} {a : Option Addr} {n cap : Nat} {xs : List (ByteArray × Int)} (h : Rw w a n cap xs) (m : Nat) (hm : m ≤ n) : Rw w a m cap (xs.take m) :=
  ⟨by rw [List.length_take, h.len]; omega, Nat.le_trans hm h.le, h.mx, fun e => ⟨by have := (h.nil e).1; omega, (h.nil e).2⟩, fun h0 => by
    obtain ⟨b, off, e, hlt, hc⟩ := h.at' (by omega)
    refine ⟨b, off, e, hlt, fun i hi => ?_⟩
    have q := hc i (by omega)
    have e1 : (xs.take m).getD i (⟨#[]⟩, 0) = xs.getD i (⟨#[]⟩, 0) := by simp [List.getD_eq_getElem?_getD, hi]
    unfold tat kat at q ⊢
    rw [e1]
    exact q⟩
/-- No rows. -/
theorem Rw.none (w : World) (c : Nat) (a : Option Addr) (hc : c ≤ maxLen) (h : a = .none → c = 0) : Rw w a 0 c [] :=
  ⟨rfl, Nat.zero_le _, hc, fun e => ⟨rfl, h e⟩, fun h => absurd h (by omega)⟩
/-- A row of the call's own as a slice of rows. -/
theorem Rw.ofOwn {w : World} {base : Nat} {e : TypeId} {v : Value} {n : Nat} {xs : List (ByteArray × Int)} (h : w.ownsRow base e 2 v n (rv xs)) : ∃ a cap, v = .slice a n cap ∧ Rw w a n cap xs := by
  obtain ⟨hl, h⟩ := h
  rw [rv_length] at hl
  rcases h with ⟨rfl, rfl⟩ | ⟨g, cap, cur, rfl, hb, hg, hn, hm, hs, ht⟩
  · exact ⟨_, 0, rfl, by omega, by omega, Nat.zero_le _, fun _ => ⟨rfl, rfl⟩, fun h => absurd h (by omega)⟩
  · refine ⟨_, cap, rfl, by omega, hn, hm, fun h => absurd h (by simp), fun h0 => ⟨g, 0, rfl, (Array.getElem?_eq_some_iff.1 hg).1, fun i hi => ?_⟩⟩
    have key : ∀ j x, (rv xs)[j]? = some x → w.cell? ⟨g, 0 + j, .none⟩ = some x := fun j x hj => by
      have hj' : j < n * 2 := by
        have := (List.getElem?_eq_some_iff.1 hj).1
        rw [rv_length] at this
        omega
      rw [← ht, List.getElem?_take_of_lt hj'] at hj
      have e2 : cur[j]? = some x := by simpa using hj
      simp [World.cell?, hg, e2]
    have q := rv_get xs i (by omega)
    exact ⟨key _ _ q.1, key _ _ q.2⟩
theorem Rw.ofOwn' {w : World} {base : Nat} {e : TypeId} {a : Option Addr} {n cap : Nat} {xs : List (ByteArray × Int)} (h : w.ownsRow base e 2 (.slice a n cap) n (rv xs)) : Rw w a n cap xs := by
  obtain ⟨a2, c2, e2, h2⟩ := Rw.ofOwn h
  cases e2
  exact h2
/-- One row that was just laid, as a slice. -/
theorem Rw.one {w : World} (t : ByteArray) (k : Int) (ty : TypeId) (b : Nat) (hb : b = w.heap.size) : Rw (w.alloc (.cells #[.string t, .int .i64 k] ty)) (some ⟨b, 0, .none⟩) 1 1 [(t, k)] := by
  subst hb
  refine ⟨rfl, Nat.le_refl _, by decide, fun e => absurd e (by simp), fun _ => ⟨w.heap.size, 0, rfl, by simp, fun i hi => ?_⟩⟩
  obtain rfl : i = 0 := by omega
  exact ⟨by simp [tat], by simp [kat]⟩
/-- One row that was just laid, as what is appended. -/
theorem src_row {w : World} (t : ByteArray) (k : Int) (ty : TypeId) : Src (w.alloc (.cells #[.string t, .int .i64 k] ty)) (some ⟨w.heap.size, 0, none⟩) 1 1 2 [.string t, .int .i64 k] :=
  Src.new #[.string t, .int .i64 k] ty w.heap.size rfl rfl (fun u hu => by simp at hu; rcases hu with rfl | rfl <;> rfl)
end Go.Proofs.Ytbcanfelfdalbaa

/-
  Rows under keys, the eldest one first, in plain mathematics. No program is named here.
-/
namespace Go.Proofs.Ytbcanfelfdalbaa
open Go.RowKit
namespace Ca
abbrev Kx := ByteArray × Pr.Row
abbrev Kl := List Kx
def Dis (l : Kl) : Prop := l.Pairwise fun a b => a.1 ≠ b.1
/-- Without a key. -/
def wo (l : Kl) (k : ByteArray) : Kl := l.filter fun x => !decide (by_ x.1 = by_ k)
theorem wo_mem {l : Kl} {k : ByteArray} {x : Kx} : x ∈ wo l k ↔ x ∈ l ∧ x.1 ≠ k := by
  unfold wo
  rw [List.mem_filter]
  simp only [Bool.not_eq_true', decide_eq_false_iff_not]
  exact ⟨fun ⟨h1, h2⟩ => ⟨h1, fun e => h2 (by rw [e])⟩, fun ⟨h1, h2⟩ => ⟨h1, fun e => h2 (by_inj e)⟩⟩
theorem wo_dis {l : Kl} (h : Dis l) (k : ByteArray) : Dis (wo l k) := List.Pairwise.filter _ h
theorem wo_none {l : Kl} {k : ByteArray} (h : ∀ x ∈ l, x.1 ≠ k) : wo l k = l := by
  unfold wo
  rw [List.filter_eq_self]
  intro x hx
  simp only [Bool.not_eq_true', decide_eq_false_iff_not]
  exact fun e => h x hx (by_inj e)
theorem wo_len {l : Kl} {k : ByteArray} : Dis l → (∃ x ∈ l, x.1 = k) → (wo l k).length + 1 = l.length := by
  intro hd hx
  induction l with
  | nil => obtain ⟨x, hx, _⟩ := hx; cases hx
  | cons y l ih =>
    obtain ⟨h1, h2⟩ := List.pairwise_cons.1 hd
    by_cases e : y.1 = k
    · have hn : wo l k = l := wo_none (fun x hx e2 => h1 x hx (by rw [e, e2]))
      have : wo (y :: l) k = wo l k := by
        unfold wo
        rw [List.filter_cons_of_neg]
        simp [e]
      rw [this, hn]
      rfl
    · have : wo (y :: l) k = y :: wo l k := by
        unfold wo
        rw [List.filter_cons_of_pos]
        simp only [Bool.not_eq_true', decide_eq_false_iff_not]
        exact fun e2 => e (by_inj e2)
      rw [this, List.length_cons, List.length_cons]
      obtain ⟨x, hx1, hx2⟩ := hx
      rcases List.mem_cons.1 hx1 with rfl | h3
      · exact absurd hx2 e
      · have := ih h2 ⟨x, h3, hx2⟩
        omega
theorem dis_one {l : Kl} (h : Dis l) {a b : Kx} (ha : a ∈ l) (hb : b ∈ l) (hp : a.1 = b.1) : a = b := by
  induction l with
  | nil => cases ha
  | cons y l ih =>
    obtain ⟨h1, h2⟩ := List.pairwise_cons.1 h
    rcases List.mem_cons.1 ha with rfl | ha' <;> rcases List.mem_cons.1 hb with rfl | hb'
    · rfl
    · exact absurd hp (h1 b hb')
    · exact absurd hp.symm (h1 a ha')
    · exact ih h2 ha' hb'
/-- One made the youngest. -/
def young (l : Kl) (e : Kx) : Kl := wo l e.1 ++ [e]
theorem young_dis {l : Kl} (h : Dis l) (e : Kx) : Dis (young l e) := by
  unfold young Dis
  rw [List.pairwise_append]
  refine ⟨wo_dis h _, by simp, fun a ha b hb => ?_⟩
  rw [List.mem_singleton.1 hb]
  exact (wo_mem.1 ha).2
theorem young_mem {l : Kl} (h : Dis l) {e : Kx} (he : e ∈ l) (x : Kx) : x ∈ young l e ↔ x ∈ l := by
  unfold young
  rw [List.mem_append, List.mem_singleton, wo_mem]
  constructor
  · rintro (⟨h1, _⟩ | rfl)
    · exact h1
    · exact he
  · intro hx
    by_cases e2 : x.1 = e.1
    · exact .inr (dis_one h hx he e2)
    · exact .inl ⟨hx, e2⟩
theorem young_len {l : Kl} (h : Dis l) {e : Kx} (he : e ∈ l) : (young l e).length = l.length := by
  unfold young
  rw [List.length_append, List.length_singleton]
  exact wo_len h ⟨e, he, rfl⟩
/-- One put: the eldest goes where there is no room. -/
def put (l : Kl) (room : Nat) (e : Kx) : Kl := if room < (young l e).length then (young l e).drop 1 else young l e
theorem put_dis {l : Kl} (h : Dis l) (room : Nat) (e : Kx) : Dis (put l room e) := by
  unfold put
  split
  · exact List.Pairwise.sublist (List.drop_sublist 1 _) (young_dis h e)
  · exact young_dis h e
theorem young_le {l : Kl} (e : Kx) : (young l e).length ≤ l.length + 1 := by
  unfold young wo
  rw [List.length_append, List.length_singleton]
  have := List.length_filter_le (fun x : Kx => !decide (by_ x.1 = by_ e.1)) l
  omega
theorem put_len {l : Kl} {room : Nat} (h : l.length ≤ room) (e : Kx) : (put l room e).length ≤ room := by
  have := young_le (l := l) e
  unfold put
  split
  · rw [List.length_drop]; omega
  · omega
/-- The first n of things under other keys each. -/
def all (K : Nat → Kx) (n : Nat) : Kl := (List.range n).map K
theorem all_len (K : Nat → Kx) (n : Nat) : (all K n).length = n := by simp [all]
theorem all_succ (K : Nat → Kx) (n : Nat) : all K (n + 1) = all K n ++ [K n] := by simp [all, List.range_succ]
theorem all_mem {K : Nat → Kx} {n : Nat} {x : Kx} : x ∈ all K n ↔ ∃ i, i < n ∧ K i = x := by simp [all]
/-- The last ones of them, as many as there is room for. -/
def last (K : Nat → Kx) (room n : Nat) : Kl := (all K n).drop (n - room)
theorem last_zero (K : Nat → Kx) (room : Nat) : last K room 0 = [] := by simp [last, all]
theorem last_mem {K : Nat → Kx} {room n : Nat} {x : Kx} : x ∈ last K room n ↔ ∃ i, n - room ≤ i ∧ i < n ∧ K i = x := by
  unfold last
  rw [List.mem_drop_iff_getElem]
  constructor
  · rintro ⟨i, hi, rfl⟩
    rw [all_len] at hi
    refine ⟨n - room + i, by omega, by omega, ?_⟩
    simp [all]
  · rintro ⟨i, h1, h2, rfl⟩
    refine ⟨i - (n - room), by rw [all_len]; omega, ?_⟩
    simp [all, show n - room + (i - (n - room)) = i by omega]
theorem last_len (K : Nat → Kx) (room n : Nat) : (last K room n).length = min n room := by
  unfold last
  rw [List.length_drop, all_len]
  omega
theorem last_put {K : Nat → Kx} {room n : Nat} (hK : ∀ i j, i < j → j < n + 1 → (K i).1 ≠ (K j).1) : put (last K room n) room (K n) = last K room (n + 1) := by
  have hw : wo (last K room n) (K n).1 = last K room n := wo_none (fun x hx => by
    obtain ⟨i, _, h2, rfl⟩ := last_mem.1 hx
    exact hK i n h2 (by omega))
  have hy : young (last K room n) (K n) = (all K (n + 1)).drop (n - room) := by
    unfold young
    rw [hw, all_succ]
    unfold last
    rw [List.drop_append_of_le_length (by rw [all_len]; omega)]
  have hl : (young (last K room n) (K n)).length = n + 1 - (n - room) := by rw [hy, List.length_drop, all_len]
  unfold put
  rw [hl, hy]
  unfold last
  by_cases h : n < room
  · rw [if_neg (by omega), show n - room = n + 1 - room by omega]
  · rw [if_pos (by omega), List.drop_drop]
    congr 1
    omega
/-! ### The writing of small numbers -/
theorem enc_one {n : Nat} (h : n < 128) : Utf8.encode (n : Int) = mk [UInt8.ofNat n] := by
  have hv : Utf8.valid (n : Int) = true := by simp [Utf8.valid]; omega
  unfold Utf8.encode
  simp only [hv, if_true, Int.toNat_natCast]
  rw [if_pos h]
  rfl
theorem enc_two {n : Nat} (h1 : 128 ≤ n) (h2 : n < 2048) : Utf8.encode (n : Int) = mk [UInt8.ofNat (192 + n / 64), UInt8.ofNat (128 + n % 64)] := by
  have hv : Utf8.valid (n : Int) = true := by simp [Utf8.valid]; omega
  unfold Utf8.encode
  simp only [hv, if_true, Int.toNat_natCast]
  rw [if_neg (by omega), if_pos h2]
  rfl
theorem u8_inj {a b : Nat} (ha : a < 256) (hb : b < 256) (h : UInt8.ofNat a = UInt8.ofNat b) : a = b := by
  have := congrArg UInt8.toNat h
  simp at this
  omega
theorem enc_inj {m n : Nat} (hm : m < 2048) (hn : n < 2048) (h : Utf8.encode (m : Int) = Utf8.encode (n : Int)) : m = n := by
  by_cases h1 : m < 128 <;> by_cases h2 : n < 128
  · rw [enc_one h1, enc_one h2] at h
    have := mk_inj h
    simp only [List.cons.injEq, and_true] at this
    exact u8_inj (by omega) (by omega) this
  · rw [enc_one h1, enc_two (by omega) hn] at h
    have := mk_inj h
    simp at this
  · rw [enc_two (by omega) hm, enc_one h2] at h
    have := mk_inj h
    simp at this
  · rw [enc_two (by omega) hm, enc_two (by omega) hn] at h
    have := mk_inj h
    simp only [List.cons.injEq, and_true] at this
    have a1 := u8_inj (by omega) (by omega) this.1
    have a2 := u8_inj (by omega) (by omega) this.2
    omega
end Ca
end Go.Proofs.Ytbcanfelfdalbaa

/-
  Rows of a key and a slice of numbers each, in memory. No program is named here.
-/
namespace Go.Proofs.Ytbcanfelfdalbaa
open Go.RowKit
set_option linter.unusedVariables false
/-- A slice; as a value. -/
abbrev Sv := Option Addr × Nat × Nat
def sv (s : Sv) : Value := .slice s.1 s.2.1 s.2.2
/-- A key, a slice, and the numbers that it leads to. -/
abbrev Et := ByteArray × Sv × Pr.Row
/-- Rows as values. -/
def xv (xs : List Et) : List Value := xs.flatMap fun x => [.string x.1, sv x.2.1]
theorem xv_length (xs : List Et) : (xv xs).length = xs.length * 2 := by
  induction xs with
  | nil => rfl
  | cons x xs ih => simp only [xv, List.flatMap_cons, List.length_append, List.length_cons, List.length_nil] at ih ⊢; omega
theorem xv_append (xs ys : List Et) : xv xs ++ xv ys = xv (xs ++ ys) := by simp [xv]
theorem xv_snoc (xs : List Et) (t : ByteArray) (s : Sv) (r : Pr.Row) : xv xs ++ [.string t, .slice s.1 s.2.1 s.2.2] = xv (xs ++ [(t, s, r)]) := by rw [← xv_append]; rfl
theorem xv_one (xs : List Et) : ∀ u ∈ xv xs, u.oneCell' = true := by
  intro u hu
  simp only [xv, List.mem_flatMap] at hu
  obtain ⟨i, _, hi⟩ := hu
  simp at hi
  rcases hi with rfl | rfl <;> rfl
/-- The row at a place. -/
def xk (xs : List Et) (i : Nat) : ByteArray := (xs.getD i (⟨#[]⟩, (none, 0, 0), [])).1
def xs_ (xs : List Et) (i : Nat) : Sv := (xs.getD i (⟨#[]⟩, (none, 0, 0), [])).2.1
def xr (xs : List Et) (i : Nat) : Pr.Row := (xs.getD i (⟨#[]⟩, (none, 0, 0), [])).2.2
theorem xv_get : ∀ (xs : List Et) (i : Nat), i < xs.length → (xv xs)[i * 2]? = some (.string (xk xs i)) ∧ (xv xs)[i * 2 + 1]? = some (sv (xs_ xs i))
  | [], i, h => by simp at h
  | x :: xs, 0, h => ⟨rfl, rfl⟩
  | x :: xs, i + 1, h => by
    have ih := xv_get xs i (by simpa using h)
    have e1 : (i + 1) * 2 = i * 2 + 1 + 1 := by omega
    rw [e1]
    exact ih
theorem xv_inv {xs : List Et} {j : Nat} {u : Value} (h : (xv xs)[j]? = some u) : ∃ i, i < xs.length ∧ ((j = i * 2 ∧ u = .string (xk xs i)) ∨ (j = i * 2 + 1 ∧ u = sv (xs_ xs i))) := by
  have hj : j < xs.length * 2 := by
    have := (List.getElem?_eq_some_iff.1 h).1
    rwa [xv_length] at this
  obtain ⟨e0, e1⟩ := xv_get xs (j / 2) (by omega)
  refine ⟨j / 2, by omega, ?_⟩
  obtain h3 | h3 : j = j / 2 * 2 ∨ j = j / 2 * 2 + 1 := by omega
  · rw [← h3] at e0; rw [e0] at h; exact .inl ⟨h3, (Option.some.inj h).symm⟩
  · rw [← h3] at e1; rw [e1] at h; exact .inr ⟨h3, (Option.some.inj h).symm⟩
/-- A slice of rows: nil, or it leads to cells that hold them. -/
structure Xw (w : World) (a : Option Addr) (n cap : Nat) (xs : List Et) : Prop where
  len : xs.length = n
  le : n ≤ cap
  mx : cap ≤ maxLen
  nil : a = none → n = 0 ∧ cap = 0
  at' : 0 < n → ∃ b off, a = some ⟨b, off, none⟩ ∧ b < w.heap.size ∧ ∀ i, i < n → w.cell? ⟨b, off + i * 2, none⟩ = some (.string (xk xs i)) ∧ w.cell? ⟨b, off + i * 2 + 1, none⟩ = some (sv (xs_ xs i))
theorem Xw.below {w w' : World} {a : Option Addr} {n cap : Nat} {xs : List Et} (h : Xw w a n cap xs) (hb : Below w.heap.size w w') : Xw w' a n cap xs :=
  ⟨h.len, h.le, h.mx, h.nil, fun hn => by
    obtain ⟨b, off, rfl, hlt, hc⟩ := h.at' hn
    exact ⟨b, off, rfl, Nat.lt_of_lt_of_le hlt hb.size, fun i hi => ⟨by rw [hb.cell (p := ⟨b, off + i * 2, none⟩) hlt]; exact (hc i hi).1, by rw [hb.cell (p := ⟨b, off + i * 2 + 1, none⟩) hlt]; exact (hc i hi).2⟩⟩⟩
/-- The first rows of a slice. -/
theorem Xw.first {w : World} {a : Option Addr} {n cap : Nat} {xs : List Et} (h : Xw w a n cap xs) (m : Nat) (hm : m ≤ n) : Xw w a m cap (xs.take m) :=
  ⟨by rw [List.length_take, h.len]; omega, Nat.le_trans hm h.le, h.mx, fun e => ⟨by have := (h.nil e).1; omega, (h.nil e).2⟩, fun h0 => by
    obtain ⟨b, off, e, hlt, hc⟩ := h.at' (by omega)
    refine ⟨b, off, e, hlt, fun i hi => ?_⟩
    have q := hc i (by omega)
    have e1 : (xs.take m).getD i (⟨#[]⟩, (none, 0, 0), []) = xs.getD i (⟨#[]⟩, (none, 0, 0), []) := by simp [List.getD_eq_getElem?_getD, hi]
    unfold xk xs_ at q ⊢
    rw [e1]
    exact q⟩
/-- No rows. -/
theorem Xw.none (w : World) (c : Nat) (a : Option Addr) (hc : c ≤ maxLen) (h : a = .none → c = 0) : Xw w a 0 c [] :=
  ⟨rfl, Nat.zero_le _, hc, fun e => ⟨rfl, h e⟩, fun h => absurd h (by omega)⟩
/-- A row of the call's own as a slice of rows. -/
theorem Xw.ofOwn {w : World} {base : Nat} {e : TypeId} {v : Value} {n : Nat} {xs : List Et} (h : w.ownsRow base e 2 v n (xv xs)) : ∃ a cap, v = .slice a n cap ∧ Xw w a n cap xs := by
  obtain ⟨hl, h⟩ := h
  rw [xv_length] at hl
  rcases h with ⟨rfl, rfl⟩ | ⟨g, cap, cur, rfl, hb, hg, hn, hm, hs, ht⟩
  · exact ⟨_, 0, rfl, by omega, by omega, Nat.zero_le _, fun _ => ⟨rfl, rfl⟩, fun h => absurd h (by omega)⟩
  · refine ⟨_, cap, rfl, by omega, hn, hm, fun h => absurd h (by simp), fun h0 => ⟨g, 0, rfl, (Array.getElem?_eq_some_iff.1 hg).1, fun i hi => ?_⟩⟩
    have key : ∀ j x, (xv xs)[j]? = some x → w.cell? ⟨g, 0 + j, .none⟩ = some x := fun j x hj => by
      have hj' : j < n * 2 := by
        have := (List.getElem?_eq_some_iff.1 hj).1
        rw [xv_length] at this
        omega
      rw [← ht, List.getElem?_take_of_lt hj'] at hj
      have e2 : cur[j]? = some x := by simpa using hj
      simp [World.cell?, hg, e2]
    have q := xv_get xs i (by omega)
    exact ⟨key _ _ q.1, key _ _ q.2⟩
theorem Xw.ofOwn' {w : World} {base : Nat} {e : TypeId} {a : Option Addr} {n cap : Nat} {xs : List Et} (h : w.ownsRow base e 2 (.slice a n cap) n (xv xs)) : Xw w a n cap xs := by
  obtain ⟨a2, c2, e2, h2⟩ := Xw.ofOwn h
  cases e2
  exact h2
end Go.Proofs.Ytbcanfelfdalbaa

/-
  A row of keys and slices: what its slices lead to lies in old memory. No program is named here.
-/
namespace Go.Proofs.Ytbcanfelfdalbaa
open Go.RowKit
set_option linter.unusedVariables false
/-- Each slice leads to its numbers. -/
def Leads (w : World) (es : List Et) : Prop := ∀ x ∈ es, Ir w x.2.1.1 x.2.1.2.1 x.2.1.2.2 x.2.2
theorem Leads.below {w w' : World} {es : List Et} (h : Leads w es) (hb : Below w.heap.size w w') : Leads w' es := fun x hx => (h x hx).below hb
/-- Keys and numbers alone. -/
def abs_ (es : List Et) : Ca.Kl := es.map fun x => (x.1, x.2.2)
theorem abs_len (es : List Et) : (abs_ es).length = es.length := by simp [abs_]
theorem xat_mem {es : List Et} {i : Nat} (h : i < es.length) : (xk es i, xs_ es i, xr es i) ∈ es := by
  have : es.getD i (⟨#[]⟩, (none, 0, 0), []) = es[i] := by simp [h]
  unfold xk xs_ xr
  rw [this]
  exact List.getElem_mem h
theorem Leads.at' {w : World} {es : List Et} (h : Leads w es) {i : Nat} (hi : i < es.length) : Ir w (xs_ es i).1 (xs_ es i).2.1 (xs_ es i).2.2 (xr es i) := h _ (xat_mem hi)
theorem abs_mem {es : List Et} {i : Nat} (h : i < es.length) : (xk es i, xr es i) ∈ abs_ es := List.mem_map.2 ⟨_, xat_mem h, rfl⟩
theorem abs_inv {es : List Et} {x : Ca.Kx} (h : x ∈ abs_ es) : ∃ i, i < es.length ∧ xk es i = x.1 ∧ xr es i = x.2 := by
  obtain ⟨y, hy, rfl⟩ := List.mem_map.1 h
  obtain ⟨i, hi, e⟩ := List.getElem_of_mem hy
  refine ⟨i, hi, ?_, ?_⟩ <;> simp [xk, xr, hi, e]
/-- Made the youngest, put: of rows with their slices. -/
def xwo (es : List Et) (k : ByteArray) : List Et := es.filter fun x => !decide (by_ x.1 = by_ k)
def xyoung (es : List Et) (e : Et) : List Et := xwo es e.1 ++ [e]
def xput (es : List Et) (room : Nat) (e : Et) : List Et := if room < (xyoung es e).length then (xyoung es e).drop 1 else xyoung es e
theorem abs_young (es : List Et) (e : Et) : abs_ (xyoung es e) = Ca.young (abs_ es) (e.1, e.2.2) := by
  unfold abs_ xyoung xwo Ca.young Ca.wo
  rw [List.map_append, List.filter_map]
  rfl
theorem abs_put (es : List Et) (room : Nat) (e : Et) : abs_ (xput es room e) = Ca.put (abs_ es) room (e.1, e.2.2) := by
  unfold xput Ca.put
  rw [← abs_young, abs_len]
  split
  · unfold abs_; rw [List.map_drop]
  · rfl
theorem xyoung_leads {w : World} {es : List Et} {e : Et} (h : Leads w es) (he : Ir w e.2.1.1 e.2.1.2.1 e.2.1.2.2 e.2.2) : Leads w (xyoung es e) := fun x hx => by
  rcases List.mem_append.1 hx with h1 | h1
  · exact h x (List.mem_filter.1 h1).1
  · rw [List.mem_singleton.1 h1]; exact he
theorem xput_leads {w : World} {es : List Et} {room : Nat} {e : Et} (h : Leads w es) (he : Ir w e.2.1.1 e.2.1.2.1 e.2.1.2.2 e.2.2) : Leads w (xput es room e) := fun x hx => by
  unfold xput at hx
  split at hx
  · exact xyoung_leads h he x (List.mem_of_mem_drop hx)
  · exact xyoung_leads h he x hx
/-- The first j, one more. -/
theorem xwo_next {es : List Et} {k : ByteArray} {j : Nat} (h : j < es.length) : xwo (es.take (j + 1)) k = xwo (es.take j) k ++ (if xk es j = k then [] else [(xk es j, xs_ es j, xr es j)]) := by
  have e : es[j]? = some (xk es j, xs_ es j, xr es j) := by simp [xk, xs_, xr, h]
  unfold xwo
  rw [List.take_add_one, e, List.filter_append]
  congr 1
  by_cases g : xk es j = k
  · rw [if_pos g]; simp [g]
  · rw [if_neg g]
    have : ¬ by_ (xk es j) = by_ k := fun e2 => g (by_inj e2)
    simp [this]
theorem xwo_len (es : List Et) (k : ByteArray) : (xwo es k).length ≤ es.length := List.length_filter_le _ _
end Go.Proofs.Ytbcanfelfdalbaa
