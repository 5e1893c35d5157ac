/-
  Slices of bytes told by a function (f i: the byte at place i), and what an append to a row of the call's own makes of them. No program is named here.
-/
import Derived.WalkKit
import Derived.Laws.AppendOwnNone
namespace Go.Proofs.Ytfgbpjajkmfkoaa
open Go.RowKit

/-- A slice of bytes: nil, or it leads to cells that hold what f tells. -/
structure Sl (w : World) (a : Option Addr) (n cap : Nat) (f : Nat → Int) : Prop where
  le : n ≤ cap
  mx : cap ≤ maxLen
  bd : ∀ i, 0 ≤ f i ∧ f i ≤ 255
  nil : a = none → n = 0 ∧ cap = 0
  at' : 0 < n → ∃ b off, a = some ⟨b, off, none⟩ ∧ b < w.heap.size ∧ ∀ i, i < n → w.cell? ⟨b, off + i, none⟩ = some (.int .u8 (f i))

theorem Sl.below {w w' : World} {a : Option Addr} {n cap : Nat} {f : Nat → Int} (h : Sl w a n cap f) (hb : Below w.heap.size w w') : Sl w' a n cap f :=
  ⟨h.le, h.mx, h.bd, h.nil, fun hn => by
    obtain ⟨b, off, rfl, hlt, hc⟩ := h.at' hn
    exact ⟨b, off, rfl, Nat.lt_of_lt_of_le hlt hb.size, fun i hi => by rw [hb.cell (p := ⟨b, off + i, none⟩) hlt]; exact hc i hi⟩⟩

/-- The values of n bytes. -/
def vals (f : Nat → Int) (n : Nat) : List Value := (List.range n).map fun i => .int .u8 (f i)
theorem vals_length (f : Nat → Int) (n : Nat) : (vals f n).length = n := by simp [vals]
theorem vals_get (f : Nat → Int) (n i : Nat) (h : i < n) : (vals f n)[i]? = some (.int .u8 (f i)) := by simp [vals, h]
theorem vals_get_inv {f : Nat → Int} {n i : Nat} {u : Value} (h : (vals f n)[i]? = some u) : i < n ∧ u = .int .u8 (f i) := by
  have hi : i < n := by
    have := (List.getElem?_eq_some_iff.1 h).1
    rwa [vals_length] at this
  rw [vals_get f n i hi] at h
  exact ⟨hi, (Option.some.inj h).symm⟩
theorem vals_one (f : Nat → Int) (n : Nat) : ∀ u ∈ vals f n, u.oneCell' = true := by
  intro u hu
  simp only [vals, List.mem_map] at hu
  obtain ⟨i, _, rfl⟩ := hu
  rfl
/-- Bytes behind others. -/
def cat (f : Nat → Int) (n : Nat) (g : Nat → Int) : Nat → Int := fun i => if i < n then f i else g (i - n)
theorem cat_lt {f g : Nat → Int} {n i : Nat} (h : i < n) : cat f n g i = f i := by simp [cat, h]
theorem cat_ge {f g : Nat → Int} {n i : Nat} (h : n ≤ i) : cat f n g i = g (i - n) := by unfold cat; rw [if_neg (by omega)]
theorem cat_bd {f g : Nat → Int} {n : Nat} (hf : ∀ i, 0 ≤ f i ∧ f i ≤ 255) (hg : ∀ i, 0 ≤ g i ∧ g i ≤ 255) (i : Nat) : 0 ≤ cat f n g i ∧ cat f n g i ≤ 255 := by
  unfold cat; split
  · exact hf i
  · exact hg _
theorem cat_zero (f g : Nat → Int) : cat f 0 g = g := by funext i; simp [cat]
theorem vals_cat (f g : Nat → Int) (n m : Nat) : vals f n ++ vals g m = vals (cat f n g) (n + m) := by
  apply List.ext_getElem?
  intro i
  by_cases h : i < n
  · rw [List.getElem?_append_left (by rw [vals_length]; exact h), vals_get _ _ _ h, vals_get _ _ _ (by omega), cat_lt h]
  · rw [List.getElem?_append_right (by rw [vals_length]; omega), vals_length]
    by_cases h2 : i < n + m
    · rw [vals_get _ _ _ (by omega), vals_get _ _ _ h2, cat_ge (by omega)]
    · rw [List.getElem?_eq_none (by rw [vals_length]; omega), List.getElem?_eq_none (by rw [vals_length]; omega)]
theorem vals_congr {f g : Nat → Int} {n : Nat} (h : ∀ i, i < n → f i = g i) : vals f n = vals g n := by
  unfold vals
  apply List.map_congr_left
  intro i hi
  rw [h i (by simpa using hi)]

/-- A row of the call's own, as a slice. -/
theorem Sl.own {w : World} {base : Nat} {e : TypeId} {v : Value} {n : Nat} {f : Nat → Int} (h : w.ownsRow base e 1 v n (vals f n)) (hf : ∀ i, 0 ≤ f i ∧ f i ≤ 255) :
    ∃ a cap, v = .slice a n cap ∧ Sl w a n cap f := by
  obtain ⟨hl, h⟩ := h
  rcases h with ⟨rfl, rfl⟩ | ⟨g, cap, cur, rfl, hb, hg, hn, hm, hs, ht⟩
  · exact ⟨none, 0, rfl, ⟨Nat.le_refl _, Nat.zero_le _, hf, fun _ => ⟨rfl, rfl⟩, fun h => absurd h (by omega)⟩⟩
  · refine ⟨_, cap, rfl, ⟨hn, hm, hf, fun h => absurd h (by simp), fun h0 => ⟨g, 0, rfl, ?_, fun i hi => ?_⟩⟩⟩
    · have := (Array.getElem?_eq_some_iff.1 hg).1
      exact this
    · have e1 : (cur.toList.take (n * 1))[i]? = some (.int .u8 (f i)) := by rw [ht]; exact vals_get f n i hi
      rw [List.getElem?_take_of_lt (by omega)] at e1
      have e2 : cur[i]? = some (.int .u8 (f i)) := by simpa using e1
      simp [World.cell?, hg, e2]

/-- 'append(own, x...)' for whatever slice of bytes x. -/
theorem wpList_append_sl {P : Program} {w : World} {ops : Array Oper} {rest : List Oper} {o : Oper} {a : Act} {Q : Exit → Act → World → Prop} (hgd : o.guard = none) (s x : Operand) (t : TypeId)
    (ho : o.op = .call { callee := .builtin .append, args := #[s, x], argTypes := #[t, t] })
    (base : Nat) (e : TypeId) (i : TypeInfo) (ht : P.underlying t = some (.slice e)) (hi : P.info? e = some i) (hz : i.zero = some (.int .u8 0)) (hsize : i.size = 1) (hby : i.bytes = 1)
    (v : Value) (n : Nat) (f : Nat → Int) (hs : a.eval s = v) (hown : w.ownsRow base e 1 v n (vals f n))
    (ao : Option Addr) (m c : Nat) (g : Nat → Int) (hx : a.eval x = .slice ao m c) (hsl : Sl w ao m c g) (h63 : n + m ≤ 140737488355328) (hbase : base ≤ w.heap.size)
    (h : ∀ v' w', w'.ownsRow base e 1 v' (n + m) (vals (cat f n g) (n + m)) → w.grownBy w' v.ownBlock → wpList P ops Q rest (a.put o.dst v') w') : wpList P ops Q (o :: rest) a w := by
  cases ao with
  | none =>
    obtain ⟨rfl, rfl⟩ := hsl.nil rfl
    refine wpList_append_own_none hgd s x t ho base e i 1 ht hi v n (vals f n) hs hown hx ?_
    refine h v w ?_ (World.grownBy.refl _ _)
    rw [Nat.add_zero, vals_congr (g := f) (fun i hi => cat_lt hi)]
    exact hown
  | some ad =>
    refine wpList_append_own (w := w) hgd s x t ho base e i (.int .u8 0) 1 1 ht hi hz hsize hby rfl (by omega) v n (vals f n) hs hown ad m c (vals g m) hx (by rw [vals_length, Nat.mul_one]) ?_ (vals_one g m) (by unfold maxLen; omega) (by omega) hbase ?_
    · intro j u hj
      obtain ⟨hlt, rfl⟩ := vals_get_inv hj
      obtain ⟨b, off, hab, _, hc⟩ := hsl.at' (by omega)
      cases hab
      rw [Addr.add_lit]; exact hc j hlt
    · intro v' w' h1 h2 _
      rw [vals_cat] at h1
      exact h v' w' h1 h2

end Go.Proofs.Ytfgbpjajkmfkoaa
