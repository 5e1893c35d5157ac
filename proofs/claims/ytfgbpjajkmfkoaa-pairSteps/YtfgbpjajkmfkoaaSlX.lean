/-
  More on slices of bytes and strings told by functions: parts of them, rows of few bytes, a string with a byte more, an answer that says whether a proposition holds. No program is named here.
-/
import Derived.Test.YtfgbpjajkmfkoaaSt
namespace Go.Proofs.Ytfgbpjajkmfkoaa
open Go.RowKit

theorem Sl.cut {w : World} {b off n cap : Nat} {f : Nat → Int} (h : Sl w (some ⟨b, off, none⟩) n cap f) (i : Nat) (hi : i < n) : Sl w (some ⟨b, off + i, none⟩) (n - i) (cap - i) (fun j => f (i + j)) := by
  have h1 := h.le
  have h2 := h.mx
  refine ⟨by omega, by omega, fun j => h.bd _, fun e => absurd e (by simp), fun h0 => ⟨b, off + i, rfl, ?_, fun j hj => ?_⟩⟩
  · obtain ⟨b', off', e, hlt, _⟩ := h.at' (by omega)
    cases e; exact hlt
  · obtain ⟨b', off', e, _, hc⟩ := h.at' (by omega)
    cases e
    rw [Nat.add_assoc]; exact hc (i + j) (by omega)

theorem Sl.drew {w : World} {a : Option Addr} {n cap : Nat} {f : Nat → Int} (h : Sl w a n cap f) : Sl w.drew a n cap f := ⟨h.le, h.mx, h.bd, h.nil, h.at'⟩

theorem cell_of_row {w : World} {B : Nat} {h : Nat → Int} {N : Nat} {t : TypeId} {fr : Nat × Nat} (hg : w.heap[B]? = some (.cells (vals h N).toArray t fr)) (j : Nat) (hj : j < N) : w.cell? ⟨B, j, none⟩ = some (.int .u8 (h j)) := by
  have := vals_get h N j hj
  simp [World.cell?, hg, this]

/-- Four bytes that were just laid, as a slice. -/
theorem Sl.four {w : World} {x0 x1 x2 x3 : Int} (t : TypeId) (g : Nat → Int) (hg : ∀ i, 0 ≤ g i ∧ g i ≤ 255) (h0 : x0 = g 0) (h1 : x1 = g 1) (h2 : x2 = g 2) (h3 : x3 = g 3) : Sl (w.alloc (.cells #[.int .u8 x0, .int .u8 x1, .int .u8 x2, .int .u8 x3] t)) (some ⟨w.heap.size, 0, none⟩) 4 4 g := by
  refine ⟨Nat.le_refl _, by decide, hg, fun e => absurd e (by simp), fun _ => ⟨w.heap.size, 0, rfl, by simp, fun i hi => ?_⟩⟩
  subst h0 h1 h2 h3
  obtain rfl | rfl | rfl | rfl : i = 0 ∨ i = 1 ∨ i = 2 ∨ i = 3 := by omega
  all_goals simp

/-- Some of three bytes that were just laid, as a slice. -/
theorem Sl.three {w : World} {x0 x1 x2 : Int} (t : TypeId) (g : Nat → Int) (n : Nat) (hn : n ≤ 3) (hg : ∀ i, 0 ≤ g i ∧ g i ≤ 255) (h0 : x0 = g 0) (h1 : x1 = g 1) (h2 : x2 = g 2) : Sl (w.alloc (.cells #[.int .u8 x0, .int .u8 x1, .int .u8 x2] t)) (some ⟨w.heap.size, 0, none⟩) n 3 g := by
  refine ⟨hn, by decide, hg, fun e => absurd e (by simp), fun _ => ⟨w.heap.size, 0, rfl, by simp, fun i hi => ?_⟩⟩
  subst h0 h1 h2
  obtain rfl | rfl | rfl : i = 0 ∨ i = 1 ∨ i = 2 := by omega
  all_goals simp

theorem Sl.one {w : World} {x0 : Int} (t : TypeId) (g : Nat → Int) (hg : ∀ i, 0 ≤ g i ∧ g i ≤ 255) (h0 : x0 = g 0) : Sl (w.alloc (.cells #[.int .u8 x0] t)) (some ⟨w.heap.size, 0, none⟩) 1 1 g := by
  refine ⟨Nat.le_refl _, by decide, hg, fun e => absurd e (by simp), fun _ => ⟨w.heap.size, 0, rfl, by simp, fun i hi => ?_⟩⟩
  subst h0
  obtain rfl : i = 0 := by omega
  simp

theorem Sl.first {w : World} {a : Option Addr} {n cap : Nat} {f : Nat → Int} (h : Sl w a n cap f) (m : Nat) (hm : m ≤ n) : Sl w a m cap f :=
  ⟨Nat.le_trans hm h.le, h.mx, h.bd, fun e => ⟨by have := (h.nil e).1; omega, (h.nil e).2⟩, fun h0 => by
    obtain ⟨b, off, e, hlt, hc⟩ := h.at' (by omega)
    exact ⟨b, off, e, hlt, fun i hi => hc i (by omega)⟩⟩

theorem str_snoc {f : Nat → Int} (hf : ∀ i, 0 ≤ f i ∧ f i ≤ 255) (m : Nat) (x : Int) (hx : x = f m) : str f m ++ str (fun _ => x) 1 = str f (m + 1) := by
  subst hx
  have h := (St.of hf m).append (St.of (f := fun _ => f m) (fun _ => hf m) 1)
  refine (h.congr hf (fun i hi => ?_)).inj (St.of hf (m + 1))
  by_cases e : i < m
  · rw [cat_lt e]
  · rw [cat_ge (by omega), show i = m by omega]

/-- The answer is whether p holds. -/
def Says (e : Ending) (p : Prop) : Prop := ∃ b, e = .returned (.bool b) ∧ (b = true ↔ p)
theorem Says.yes {p : Prop} (h : p) : Says (.returned (.bool true)) p := ⟨true, rfl, by simp [h]⟩
theorem Says.no {p : Prop} (h : ¬ p) : Says (.returned (.bool false)) p := ⟨false, rfl, by simp [h]⟩
theorem Says.of {e : Ending} {p : Prop} (h : Says e p) : (e = .returned (.bool true) ∧ p) ∨ (e = .returned (.bool false) ∧ ¬ p) := by
  obtain ⟨b, rfl, hb⟩ := h
  cases b
  · exact Or.inr ⟨rfl, fun q => by simpa using hb.2 q⟩
  · exact Or.inl ⟨rfl, hb.1 rfl⟩

theorem St.get? {s : ByteArray} {n : Nat} {f : Nat → Int} (h : St s n f) {i : Nat} (hi : i < n) : ∃ x : UInt8, s.toList[i]? = some x ∧ (x.toNat : Int) = f i := by
  have hi' : i < s.size := by rw [h.size]; exact hi
  refine ⟨s[i]'hi', ?_, h.get i hi'⟩
  rw [ByteArray.toList_eq, Array.getElem?_toList]
  exact Array.getElem?_eq_getElem hi'
theorem St.length {s : ByteArray} {n : Nat} {f : Nat → Int} (h : St s n f) : s.toList.length = n := by
  rw [ByteArray.toList_eq, Array.length_toList]; exact h.size

theorem St.isEmpty_no {s : ByteArray} {n : Nat} {f : Nat → Int} (h : St s n f) (hn : 0 < n) : s.toList.isEmpty = false := by
  cases e : s.toList with
  | nil => have := h.length; rw [e] at this; simp at this; omega
  | cons => rfl

theorem St.isEmpty_yes {s : ByteArray} {f : Nat → Int} (h : St s 0 f) : s.toList.isEmpty = true := by
  cases e : s.toList with
  | nil => rfl
  | cons => have := h.length; rw [e] at this; simp at this
end Go.Proofs.Ytfgbpjajkmfkoaa
