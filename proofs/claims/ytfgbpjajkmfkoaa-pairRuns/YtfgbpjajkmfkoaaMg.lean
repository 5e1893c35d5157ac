/-
  Pairs of texts in memory; a block of four cells (a struct's), as it lies and as it is written; two rows of the call's own beside each other. No program is named here.
-/
import Derived.Test.YtfgbpjajkmfkoaaRk
import Derived.Test.YtfgbpjajkmfkoaaMutF
namespace Go.Proofs.Ytfgbpjajkmfkoaa
open Go.RowKit

def Bx4 (W : World) (B : Nat) (t : TypeId) (x y z u : Value) : Prop := W.heap[B]? = some (.cells #[x, y, z, u] t (0, 0))
section
variable {W : World} {B : Nat} {t : TypeId} {x y z u : Value}
theorem Bx4.lt (h : Bx4 W B t x y z u) : B < W.heap.size := (Array.getElem?_eq_some_iff.1 h).1
theorem Bx4.cell0 (h : Bx4 W B t x y z u) : W.cell? ⟨B, 0, none⟩ = some x := by simp [World.cell?, show W.heap[B]? = _ from h]
theorem Bx4.cell1 (h : Bx4 W B t x y z u) : W.cell? ⟨B, 1, none⟩ = some y := by simp [World.cell?, show W.heap[B]? = _ from h]
theorem Bx4.cell2 (h : Bx4 W B t x y z u) : W.cell? ⟨B, 2, none⟩ = some z := by simp [World.cell?, show W.heap[B]? = _ from h]
theorem Bx4.cell3 (h : Bx4 W B t x y z u) : W.cell? ⟨B, 3, none⟩ = some u := by simp [World.cell?, show W.heap[B]? = _ from h]
theorem Bx4.fr (h : Bx4 W B t x y z u) (j : Nat) : W.frozen? ⟨B, j, none⟩ = false := by simp [World.frozen?, show W.heap[B]? = _ from h]
theorem Bx4.new (W : World) (t : TypeId) (x y z u : Value) : Bx4 (W.alloc (.cells #[x, y, z, u] t)) W.heap.size t x y z u := World.alloc_heap_new W _
theorem Bx4.below {W' : World} {n : Nat} (h : Bx4 W B t x y z u) (hb : Below n W W') (hn : B < n) : Bx4 W' B t x y z u := (hb.block B hn).trans h
theorem Bx4.alloc (h : Bx4 W B t x y z u) (o : Obj) : Bx4 (W.alloc o) B t x y z u := (Below.heap_alloc _ _ _ h.lt).trans h
theorem Bx4.mut {W' : World} {S : Nat → Prop} (h : Bx4 W B t x y z u) (hm : Mut S W W') (hn : ¬ S B) : Bx4 W' B t x y z u := (hm.block B h.lt hn).trans h
theorem Bx4.kept {W' : World} {row : Option Nat} (h : Bx4 W B t x y z u) (hg : W.grownBy W' row) (hne : some B ≠ row) : Bx4 W' B t x y z u := (hg.block B h.lt hne).trans h
theorem Bx4.set0 (h : Bx4 W B t x y z u) (v : Value) : Bx4 (W.setCell ⟨B, 0, none⟩ v) B t v y z u := by
  obtain ⟨hlt, hk⟩ := Array.getElem?_eq_some_iff.1 h
  show (W.heap.modify B _)[B]? = _
  rw [Array.getElem?_eq_getElem (by rw [Array.size_modify]; exact hlt), Array.getElem_modify_self, hk]
  rfl
theorem Bx4.set1 (h : Bx4 W B t x y z u) (v : Value) : Bx4 (W.setCell ⟨B, 1, none⟩ v) B t x v z u := by
  obtain ⟨hlt, hk⟩ := Array.getElem?_eq_some_iff.1 h
  show (W.heap.modify B _)[B]? = _
  rw [Array.getElem?_eq_getElem (by rw [Array.size_modify]; exact hlt), Array.getElem_modify_self, hk]
  rfl
theorem Bx4.set2 (h : Bx4 W B t x y z u) (v : Value) : Bx4 (W.setCell ⟨B, 2, none⟩ v) B t x y v u := by
  obtain ⟨hlt, hk⟩ := Array.getElem?_eq_some_iff.1 h
  show (W.heap.modify B _)[B]? = _
  rw [Array.getElem?_eq_getElem (by rw [Array.size_modify]; exact hlt), Array.getElem_modify_self, hk]
  rfl
theorem Bx4.set3 (h : Bx4 W B t x y z u) (v : Value) : Bx4 (W.setCell ⟨B, 3, none⟩ v) B t x y z v := by
  obtain ⟨hlt, hk⟩ := Array.getElem?_eq_some_iff.1 h
  show (W.heap.modify B _)[B]? = _
  rw [Array.getElem?_eq_getElem (by rw [Array.size_modify]; exact hlt), Array.getElem_modify_self, hk]
  rfl
end
theorem Bx4.drew {W : World} {B : Nat} {t : TypeId} {x y z u : Value} (h : Bx4 W B t x y z u) : Bx4 W.drew B t x y z u := h
theorem Bx2.drew {W : World} {B : Nat} {t : TypeId} {x y : Value} (h : Bx2 W B t x y) : Bx2 W.drew B t x y := h
theorem Bx2.other {W : World} {B D j : Nat} {t : TypeId} {x y : Value} (h : Bx2 W B t x y) (hne : B ≠ D) (v : Value) : Bx2 (W.setCell ⟨D, j, none⟩ v) B t x y :=
  (Below.heap_setCell _ _ _ _ (by simpa using hne)).trans h
theorem Bx2.mut {W W' : World} {S : Nat → Prop} {B : Nat} {t : TypeId} {x y : Value} (h : Bx2 W B t x y) (hm : Mut S W W') (hn : ¬ S B) : Bx2 W' B t x y := (hm.block B h.lt hn).trans h
/-- Both cells of each of two blocks written. -/
def four (W : World) (R F : Nat) (x y u v : Value) : World := (((W.setCell ⟨R, 0, none⟩ x).setCell ⟨R, 1, none⟩ y).setCell ⟨F, 0, none⟩ u).setCell ⟨F, 1, none⟩ v
theorem ret_four {W : World} {R F : Nat} {tr tf : TypeId} {a b c d : Value} (X : Bx2 W R tr a b) (Z : Bx2 W F tf c d) (hne : R ≠ F) (x y u v : Value) :
    Bx2 (W.setCell ⟨R, 0, none⟩ x) R tr x b ∧ Bx2 ((W.setCell ⟨R, 0, none⟩ x).setCell ⟨R, 1, none⟩ y) R tr x y ∧ Bx2 ((W.setCell ⟨R, 0, none⟩ x).setCell ⟨R, 1, none⟩ y) F tf c d ∧
    Bx2 (((W.setCell ⟨R, 0, none⟩ x).setCell ⟨R, 1, none⟩ y).setCell ⟨F, 0, none⟩ u) F tf u d ∧ Bx2 (four W R F x y u v) R tr x y ∧ Bx2 (four W R F x y u v) F tf u v :=
  have h1 := X.set0 x
  have h2 := h1.set1 y
  have h3 := (Z.other (D := R) (j := 0) (Ne.symm hne) x).other (D := R) (j := 1) (Ne.symm hne) y
  have h4 := h3.set0 u
  ⟨h1, h2, h3, h4, (h2.other (D := F) (j := 0) hne u).other (D := F) (j := 1) hne v, h4.set1 v⟩
theorem below_four {w W : World} {n R F : Nat} (h : Below n w W) (hR : n ≤ R) (hF : n ≤ F) (x y u v : Value) : Below n w (four W R F x y u v) :=
  below_two (below_two h hR x y) hF u v
/-- A row of the call's own over a write into another block. -/
theorem own_set {W : World} {base : Nat} {e : TypeId} {size : Nat} {v : Value} {n B j : Nat} {xs : List Value} (h : W.ownsRow base e size v n xs) (hB : v.ownBlock ≠ some B) (x : Value) : (W.setCell ⟨B, j, none⟩ x).ownsRow base e size v n xs :=
  h.kept (grown_setCell W B j x) (.inr hB)
theorem own_four {W : World} {base : Nat} {e : TypeId} {size : Nat} {v : Value} {n R F : Nat} {xs : List Value} (h : W.ownsRow base e size v n xs) (hR : R < base) (hF : F < base) (x y u z : Value) : (four W R F x y u z).ownsRow base e size v n xs :=
  own_two (own_two h hR x y) hF u z
/-- Two rows of the call's own, of two kinds, lie apart. -/
theorem own_apart {W : World} {b1 b2 : Nat} {e1 e2 : TypeId} {s1 s2 : Nat} {v1 v2 : Value} {n1 n2 : Nat} {xs ys : List Value} (h1 : W.ownsRow b1 e1 s1 v1 n1 xs) (h2 : W.ownsRow b2 e2 s2 v2 n2 ys) (hne : e1 ≠ e2) : v1.ownBlock = none ∨ v1.ownBlock ≠ v2.ownBlock := by
  rcases h1.2 with ⟨rfl, _⟩ | ⟨g, cap, cur, rfl, hb, hg, _⟩
  · exact .inl rfl
  · refine .inr fun e => ?_
    rcases h2.2 with ⟨rfl, _⟩ | ⟨g2, cap2, cur2, rfl, hb2, hg2, _⟩
    · simp [Value.ownBlock] at e
    · simp [Value.ownBlock] at e
      subst e
      rw [hg] at hg2
      simp at hg2
      exact hne hg2.2
theorem own_block {W : World} {base : Nat} {e : TypeId} {size : Nat} {v : Value} {n B : Nat} {xs : List Value} (h : W.ownsRow base e size v n xs) (hB : B < base) : v.ownBlock ≠ some B := fun e => by have := (h.lt B e).1; omega
theorem own_mut {W W' : World} {S : Nat → Prop} {base : Nat} {e : TypeId} {size : Nat} {v : Value} {n : Nat} {xs : List Value} (h : W.ownsRow base e size v n xs) (hm : Mut S W W') (hn : ∀ k, v.ownBlock = some k → ¬ S k) : W'.ownsRow base e size v n xs := by
  refine ⟨h.1, ?_⟩
  rcases h.2 with q | ⟨g, cap, cur, hv, hB, hg, rest⟩
  · exact .inl q
  · refine .inr ⟨g, cap, cur, hv, hB, ?_, rest⟩
    rw [hm.block g (Array.getElem?_eq_some_iff.1 hg).1 (hn g (by rw [hv]; rfl))]
    exact hg
/-- The frame of an append to a row of the call's own above M. -/
theorem Mut.grown {S : Nat → Prop} {a b c : World} {row : Option Nat} (h : Mut S a b) (hg : b.grownBy c row) (hr : ∀ k, row = some k → S k) : Mut S a c :=
  ⟨hg.os.trans h.os, hg.tape.trans h.tape, hg.output.trans h.output, Nat.le_trans h.size hg.size, fun k hk hn => (hg.block k (Nat.lt_of_lt_of_le hk h.size) (fun e => hn (hr k e.symm))).trans (h.block k hk hn)⟩
theorem Mut.alloc {S : Nat → Prop} {a b : World} (h : Mut S a b) (o : Obj) : Mut S a (b.alloc o) :=
  h.trans (Mut.ofBelow ((Below.refl _ b).alloc (Nat.le_refl _) o) S) (fun _ _ e => e)
theorem Mut.setCell {S : Nat → Prop} {a b : World} (h : Mut S a b) (B j : Nat) (v : Value) (hB : S B) : Mut S a (b.setCell ⟨B, j, none⟩ v) :=
  h.trans (Mut.set b B j v (S := S) hB) (fun _ _ e => e)
theorem Mut.drew {S : Nat → Prop} {a b : World} (h : Mut S a b) : Mut S a b.drew := h.trans (Mut.ofBelow (Below.refl _ b).drew S) (fun _ _ e => e)
theorem Mut.then_below {S : Nat → Prop} {a b c : World} (h : Mut S a b) (k : Below b.heap.size b c) : Mut S a c := h.trans (Mut.ofBelow k S) (fun _ _ e => e)

/-- Pairs as values. -/
def pv (xs : List (ByteArray × ByteArray)) : List Value := xs.flatMap fun x => [.string x.1, .string x.2]
theorem pv_length (xs : List (ByteArray × ByteArray)) : (pv xs).length = xs.length * 2 := by
  induction xs with
  | nil => rfl
  | cons x xs ih => simp only [pv, List.flatMap_cons, List.length_append, List.length_cons, List.length_nil] at ih ⊢; omega
theorem pv_append (xs ys : List (ByteArray × ByteArray)) : pv xs ++ pv ys = pv (xs ++ ys) := by simp [pv]
theorem pv_snoc (xs : List (ByteArray × ByteArray)) (t : ByteArray) (k : ByteArray) : pv xs ++ [.string t, .string k] = pv (xs ++ [(t, k)]) := by rw [← pv_append]; rfl
theorem pv_one (xs : List (ByteArray × ByteArray)) : ∀ u ∈ pv xs, u.oneCell' = true := by
  intro u hu
  simp only [pv, List.mem_flatMap] at hu
  obtain ⟨i, _, hi⟩ := hu
  simp at hi
  rcases hi with rfl | rfl <;> rfl
/-- The pair at a place. -/
def lat (xs : List (ByteArray × ByteArray)) (i : Nat) : ByteArray := (xs.getD i (⟨#[]⟩, ⟨#[]⟩)).1
def gat (xs : List (ByteArray × ByteArray)) (i : Nat) : ByteArray := (xs.getD i (⟨#[]⟩, ⟨#[]⟩)).2
theorem pv_get : ∀ (xs : List (ByteArray × ByteArray)) (i : Nat), i < xs.length → (pv xs)[i * 2]? = some (.string (lat xs i)) ∧ (pv xs)[i * 2 + 1]? = some (.string (gat xs i))
  | [], i, h => by simp at h
  | x :: xs, 0, h => ⟨rfl, rfl⟩
  | x :: xs, i + 1, h => by
    have ih := pv_get xs i (by simpa using h)
    have e1 : (i + 1) * 2 = i * 2 + 1 + 1 := by omega
    rw [e1]
    exact ih
theorem pv_inv {xs : List (ByteArray × ByteArray)} {j : Nat} {u : Value} (h : (pv xs)[j]? = some u) : ∃ i, i < xs.length ∧ ((j = i * 2 ∧ u = .string (lat xs i)) ∨ (j = i * 2 + 1 ∧ u = .string (gat xs i))) := by
  have hj : j < xs.length * 2 := by
    have := (List.getElem?_eq_some_iff.1 h).1
    rwa [pv_length] at this
  obtain ⟨e0, e1⟩ := pv_get xs (j / 2) (by omega)
  refine ⟨j / 2, by omega, ?_⟩
  obtain h3 | h3 : j = j / 2 * 2 ∨ j = j / 2 * 2 + 1 := by omega
  · rw [← h3] at e0; rw [e0] at h; exact .inl ⟨h3, (Option.some.inj h).symm⟩
  · rw [← h3] at e1; rw [e1] at h; exact .inr ⟨h3, (Option.some.inj h).symm⟩
theorem qat_ext {xs ys : List (ByteArray × ByteArray)} (hl : xs.length = ys.length) (h : ∀ i, i < xs.length → lat xs i = lat ys i ∧ gat xs i = gat ys i) : xs = ys := by
  apply List.ext_getElem hl
  intro i h1 h2
  have := h i h1
  simp [lat, gat, h1, h2] at this
  exact Prod.ext this.1 this.2

/-- A slice of pairs: nil, or it leads to cells that hold them. -/
structure Pw (w : World) (a : Option Addr) (n cap : Nat) (xs : List (ByteArray × ByteArray)) : Prop where
  len : xs.length = n
  le : n ≤ cap
  mx : cap ≤ maxLen
  nil : a = none → n = 0 ∧ cap = 0
  at' : 0 < n → ∃ b off, a = some ⟨b, off, none⟩ ∧ b < w.heap.size ∧ ∀ i, i < n → w.cell? ⟨b, off + i * 2, none⟩ = some (.string (lat xs i)) ∧ w.cell? ⟨b, off + i * 2 + 1, none⟩ = some (.string (gat xs i))
theorem Pw.below {w w' : World} {a : Option Addr} {n cap : Nat} {xs : List (ByteArray × ByteArray)} (h : Pw w a n cap xs) (hb : Below w.heap.size w w') : Pw w' a n cap xs :=
  ⟨h.len, h.le, h.mx, h.nil, fun hn => by
    obtain ⟨b, off, rfl, hlt, hc⟩ := h.at' hn
    exact ⟨b, off, rfl, Nat.lt_of_lt_of_le hlt hb.size, fun i hi => ⟨by rw [hb.cell (p := ⟨b, off + i * 2, none⟩) hlt]; exact (hc i hi).1, by rw [hb.cell (p := ⟨b, off + i * 2 + 1, none⟩) hlt]; exact (hc i hi).2⟩⟩⟩
/-- The first pairs of a slice. -/
theorem Pw.first {w : World} {a : Option Addr} {n cap : Nat} {xs : List (ByteArray × ByteArray)} (h : Pw w a n cap xs) (m : Nat) (hm : m ≤ n) : Pw w a m cap (xs.take m) :=
  ⟨by rw [List.length_take, h.len]; omega, Nat.le_trans hm h.le, h.mx, fun e => ⟨by have := (h.nil e).1; omega, (h.nil e).2⟩, fun h0 => by
    obtain ⟨b, off, e, hlt, hc⟩ := h.at' (by omega)
    refine ⟨b, off, e, hlt, fun i hi => ?_⟩
    have q := hc i (by omega)
    have e1 : (xs.take m).getD i (⟨#[]⟩, ⟨#[]⟩) = xs.getD i (⟨#[]⟩, ⟨#[]⟩) := by simp [List.getD_eq_getElem?_getD, hi]
    unfold lat gat at q ⊢
    rw [e1]
    exact q⟩
/-- No pairs. -/
theorem Pw.none (w : World) (c : Nat) (a : Option Addr) (hc : c ≤ maxLen) (h : a = .none → c = 0) : Pw w a 0 c [] :=
  ⟨rfl, Nat.zero_le _, hc, fun e => ⟨rfl, h e⟩, fun h => absurd h (by omega)⟩
/-- A row of the call's own as a slice of pairs. -/
theorem Pw.ofOwn {w : World} {base : Nat} {e : TypeId} {v : Value} {n : Nat} {xs : List (ByteArray × ByteArray)} (h : w.ownsRow base e 2 v n (pv xs)) : ∃ a cap, v = .slice a n cap ∧ Pw w a n cap xs := by
  obtain ⟨hl, h⟩ := h
  rw [pv_length] at hl
  rcases h with ⟨rfl, rfl⟩ | ⟨g, cap, cur, rfl, hb, hg, hn, hm, hs, ht⟩
  · exact ⟨_, 0, rfl, by omega, by omega, Nat.zero_le _, fun _ => ⟨rfl, rfl⟩, fun h => absurd h (by omega)⟩
  · refine ⟨_, cap, rfl, by omega, hn, hm, fun h => absurd h (by simp), fun h0 => ⟨g, 0, rfl, (Array.getElem?_eq_some_iff.1 hg).1, fun i hi => ?_⟩⟩
    have key : ∀ j x, (pv xs)[j]? = some x → w.cell? ⟨g, 0 + j, .none⟩ = some x := fun j x hj => by
      have hj' : j < n * 2 := by
        have := (List.getElem?_eq_some_iff.1 hj).1
        rw [pv_length] at this
        omega
      rw [← ht, List.getElem?_take_of_lt hj'] at hj
      have e2 : cur[j]? = some x := by simpa using hj
      simp [World.cell?, hg, e2]
    have q := pv_get xs i (by omega)
    exact ⟨key _ _ q.1, key _ _ q.2⟩
theorem Pw.ofOwn' {w : World} {base : Nat} {e : TypeId} {a : Option Addr} {n cap : Nat} {xs : List (ByteArray × ByteArray)} (h : w.ownsRow base e 2 (.slice a n cap) n (pv xs)) : Pw w a n cap xs := by
  obtain ⟨a2, c2, e2, h2⟩ := Pw.ofOwn h
  cases e2
  exact h2
/-- One pair that was just laid, as a slice. -/
theorem Pw.one {w : World} (t : ByteArray) (k : ByteArray) (ty : TypeId) (b : Nat) (hb : b = w.heap.size) : Pw (w.alloc (.cells #[.string t, .string k] ty)) (some ⟨b, 0, .none⟩) 1 1 [(t, k)] := by
  subst hb
  refine ⟨rfl, Nat.le_refl _, by decide, fun e => absurd e (by simp), fun _ => ⟨w.heap.size, 0, rfl, by simp, fun i hi => ?_⟩⟩
  obtain rfl : i = 0 := by omega
  exact ⟨by simp [lat], by simp [gat]⟩
/-- One pair that was just laid, as what is appended. -/
theorem src_pair {w : World} (t : ByteArray) (k : ByteArray) (ty : TypeId) : Src (w.alloc (.cells #[.string t, .string k] ty)) (some ⟨w.heap.size, 0, none⟩) 1 1 2 [.string t, .string k] :=
  Src.new #[.string t, .string k] ty w.heap.size rfl rfl (fun u hu => by simp at hu; rcases hu with rfl | rfl <;> rfl)
end Go.Proofs.Ytfgbpjajkmfkoaa
