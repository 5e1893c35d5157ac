/-
  Slices of numbers of one kind, told by functions, that lie apart from given blocks. No program is named here.
-/
import Derived.Test.YtgjeiikjpacocaaRg
import Derived.Test.YtgjeiikjpacocaaApp
namespace Go.Proofs.Ytgjeiikjpacocaa
open Go.RowKit

/-- A slice of numbers of kind K: nil, or it leads to cells that hold what f tells, in none of the blocks of X. -/
structure Sk (w : World) (K : IntKind) (X : Nat → Prop) (a : Option Addr) (n cap : Nat) (f : Nat → Int) : Prop where
  le : n ≤ cap
  mx : cap ≤ maxLen
  nil : a = none → n = 0 ∧ cap = 0
  at' : 0 < n → ∃ b off, a = some ⟨b, off, none⟩ ∧ b < w.heap.size ∧ ¬ X b ∧ ∀ i, i < n → w.cell? ⟨b, off + i, none⟩ = some (.int K (f i))
section
variable {w w' : World} {K : IntKind} {X : Nat → Prop} {a : Option Addr} {n cap : Nat} {f : Nat → Int}
theorem Sk.kept (h : Sk w K X a n cap f) {S : Nat → Prop} (hm : Mut S w w') (hS : ∀ k, S k → X k) : Sk w' K X a n cap f :=
  ⟨h.le, h.mx, h.nil, fun hn => by
    obtain ⟨b, off, rfl, hlt, hx, hc⟩ := h.at' hn
    exact ⟨b, off, rfl, Nat.lt_of_lt_of_le hlt hm.size, hx, fun i hi => by rw [hm.cell hlt (fun e => hx (hS b e))]; exact hc i hi⟩⟩
theorem Sk.below (h : Sk w K X a n cap f) (hb : Below w.heap.size w w') : Sk w' K X a n cap f := h.kept (Mut.ofBelow hb fun _ => False) (fun _ e => e.elim)
theorem Sk.weaken (h : Sk w K X a n cap f) {Y : Nat → Prop} (hY : ∀ k, k < w.heap.size → Y k → X k) : Sk w K Y a n cap f :=
  ⟨h.le, h.mx, h.nil, fun hn => by
    obtain ⟨b, off, rfl, hlt, hx, hc⟩ := h.at' hn
    exact ⟨b, off, rfl, hlt, fun e => hx (hY b hlt e), hc⟩⟩
theorem Sk.congr (h : Sk w K X a n cap f) {g : Nat → Int} (hg : ∀ i, i < n → f i = g i) : Sk w K X a n cap g :=
  ⟨h.le, h.mx, h.nil, fun hn => by
    obtain ⟨b, off, rfl, hlt, hx, hc⟩ := h.at' hn
    exact ⟨b, off, rfl, hlt, hx, fun i hi => by rw [← hg i hi]; exact hc i hi⟩⟩
theorem Sk.nilS (w : World) (K : IntKind) (X : Nat → Prop) (f : Nat → Int) : Sk w K X none 0 0 f := ⟨Nat.le_refl _, Nat.zero_le _, fun _ => ⟨rfl, rfl⟩, fun h => absurd h (by omega)⟩
theorem Sk.src (h : Sk w K X a n cap f) : Src w a n cap 1 (kv K f n) :=
  ⟨by rw [kv_length, Nat.mul_one], kv_one K f n, h.nil, fun ad ha j u hu => by
    obtain ⟨hj, rfl⟩ := kv_inv hu
    obtain ⟨b, off, hab, _, _, hc⟩ := h.at' (by omega)
    rw [ha] at hab
    cases hab
    rw [Addr.add_lit]
    exact hc j hj⟩
/-- Behind the first. -/
theorem Sk.tail (h : Sk w K X a n cap f) (h1 : 1 < n) : ∃ b off, a = some ⟨b, off, none⟩ ∧ Sk w K X (some ⟨b, off + 1, none⟩) (n - 1) (cap - 1) (fun i => f (i + 1)) := by
  obtain ⟨b, off, rfl, hlt, hx, hc⟩ := h.at' (by omega)
  refine ⟨b, off, rfl, ⟨by have := h.le; omega, by have := h.mx; omega, fun e => (by cases e), fun hn => ⟨b, off + 1, rfl, hlt, hx, fun i hi => ?_⟩⟩⟩
  rw [show off + 1 + i = off + (i + 1) by omega]
  exact hc (i + 1) (by omega)
/-- A row of the call's own. -/
theorem Sk.ofOwn {base : Nat} {e : TypeId} {v : Value} (h : w.ownsRow base e 1 v n (kv K f n)) (hX : ∀ k, X k → k < base) : ∃ a cap, v = .slice a n cap ∧ Sk w K X a n cap f := by
  obtain ⟨hl, h⟩ := h
  rcases h with ⟨rfl, rfl⟩ | ⟨g, cap, cur, rfl, hb, hg, hn, hm, hs, ht⟩
  · exact ⟨_, _, rfl, Sk.nilS w K X f⟩
  · refine ⟨_, cap, rfl, hn, hm, fun h => absurd h (by simp), fun h0 => ⟨g, 0, rfl, (Array.getElem?_eq_some_iff.1 hg).1, fun e => by have := hX g e; omega, fun i hi => ?_⟩⟩
    have e1 : (cur.toList.take (n * 1))[i]? = some (.int K (f i)) := by rw [ht]; exact kv_get K f n i hi
    rw [List.getElem?_take_of_lt (by omega)] at e1
    have e2 : cur[i]? = some (.int K (f i)) := by simpa using e1
    simp [World.cell?, hg, e2]
/-- A block that is known whole. -/
theorem Sk.ofBlock {b : Nat} {e : TypeId} (hb : w.heap[b]? = some (.cells (kv K f n).toArray e (0, 0))) (hn : n ≤ maxLen) (hX : ¬ X b) : Sk w K X (some ⟨b, 0, none⟩) n n f :=
  ⟨Nat.le_refl _, hn, fun e => (by cases e), fun h0 => ⟨b, 0, rfl, (Array.getElem?_eq_some_iff.1 hb).1, hX, fun i hi => by
    have e := kv_get K f n i hi
    simp only [World.cell?, hb]
    simpa using e⟩⟩
end
end Go.Proofs.Ytgjeiikjpacocaa
