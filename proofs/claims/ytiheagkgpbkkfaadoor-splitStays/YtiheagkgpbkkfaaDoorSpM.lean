/-
  Pieces in memory: a number and a bool each. The bytes in a row at a text's place. No program is named here.
-/
import Derived.Test.YtiheagkgpbkkfaaDoorSpX
import Derived.Test.YtiheagkgpbkkfaaDoorLotG
namespace Go.Proofs.YtiheagkgpbkkfaaDoor
open Go.RowKit
set_option linter.unusedVariables false
open Pr (it)
namespace Sp
/-- The bytes at a text's front. -/
def run (l : List Int) : List Int := l.take (rl l)
theorem run_length (l : List Int) : (run l).length = rl l := run_len l
theorem run_bd (l : List Int) (i : Nat) : 0 ≤ fn (run l) i ∧ fn (run l) i ≤ 255 := by
  unfold fn
  by_cases h : i < (run l).length
  · rw [List.getD_eq_getElem?_getD, List.getElem?_eq_getElem h]
    exact isB_iff.1 (rl_take l _ (List.getElem_mem h))
  · rw [List.getD_eq_getElem?_getD, List.getElem?_eq_none (by omega)]
    decide
theorem run_it {l : List Int} {i : Nat} (h : i < rl l) : fn (run l) i = it l i := by
  have := Pr.it_take (xs := l) h
  exact this
theorem rl_it {l : List Int} {i : Nat} (h : i < rl l) : isB (it l i) = true := by
  have e : it (run l) i = it l i := Pr.it_take h
  rw [← e]
  exact rl_take l _ (Pr.it_mem (by rw [run_len]; exact h))
theorem rl_stop : ∀ {l : List Int}, rl l < l.length → isB (it l (rl l)) = false
  | [], h => by simp at h
  | x :: l, h => by
    cases hx : isB x with
    | false =>
      have e : rl (x :: l) = 0 := by unfold rl; exact Sc.tw_cons_no hx
      rw [e]
      exact hx
    | true =>
      have e : rl (x :: l) = rl l + 1 := by unfold rl; exact Sc.tw_cons_yes hx
      rw [e] at h ⊢
      exact rl_stop (l := l) (by simpa using h)
theorem rl_next {l : List Int} {j : Nat} (hj : j ≤ rl l) (hl : j < l.length) : if isB (it l j) = true then j < rl l else j = rl l := by
  by_cases h : j < rl l
  · rw [if_pos (rl_it h)]; exact h
  · obtain rfl : j = rl l := by omega
    rw [if_neg (by rw [rl_stop hl]; decide)]
end Sp
/-- Pieces as values. -/
def pcv (ps : List (Nat × Bool)) : List Value := ps.flatMap fun p => [.int .i64 (p.1 : Nat), .bool p.2]
theorem pcv_length (ps : List (Nat × Bool)) : (pcv ps).length = ps.length * 2 := by
  induction ps with
  | nil => rfl
  | cons x xs ih => simp only [pcv, List.flatMap_cons, List.length_append, List.length_cons, List.length_nil] at ih ⊢; omega
theorem pcv_append (xs ys : List (Nat × Bool)) : pcv xs ++ pcv ys = pcv (xs ++ ys) := by simp [pcv]
theorem pcv_snoc (xs : List (Nat × Bool)) (n : Nat) (d : Bool) : pcv xs ++ [.int .i64 (n : Nat), .bool d] = pcv (xs ++ [(n, d)]) := by rw [← pcv_append]; rfl
theorem pcv_one (xs : List (Nat × Bool)) : ∀ u ∈ pcv xs, u.oneCell' = true := by
  intro u hu
  simp only [pcv, List.mem_flatMap] at hu
  obtain ⟨i, _, hi⟩ := hu
  simp at hi
  rcases hi with rfl | rfl <;> rfl
/-- The piece at a place. -/
def pt (ps : List (Nat × Bool)) (i : Nat) : Nat × Bool := ps.getD i (0, false)
theorem pt_get {ps : List (Nat × Bool)} {i : Nat} (h : i < ps.length) : ps[i]? = some (pt ps i) := by simp [pt, h]
theorem pt_mem {ps : List (Nat × Bool)} {i : Nat} (h : i < ps.length) : pt ps i ∈ ps := List.mem_of_getElem? (pt_get h)
theorem pcv_get : ∀ (xs : List (Nat × Bool)) (i : Nat), i < xs.length → (pcv xs)[i * 2]? = some (.int .i64 ((pt xs i).1 : Nat)) ∧ (pcv xs)[i * 2 + 1]? = some (.bool (pt xs i).2)
  | [], i, h => by simp at h
  | x :: xs, 0, h => ⟨rfl, rfl⟩
  | x :: xs, i + 1, h => by
    have ih := pcv_get xs i (by simpa using h)
    have e1 : (i + 1) * 2 = i * 2 + 1 + 1 := by omega
    rw [e1]
    exact ih
theorem pcv_inv {xs : List (Nat × Bool)} {j : Nat} {u : Value} (h : (pcv xs)[j]? = some u) : ∃ i, i < xs.length ∧ ((j = i * 2 ∧ u = .int .i64 ((pt xs i).1 : Nat)) ∨ (j = i * 2 + 1 ∧ u = .bool (pt xs i).2)) := by
  have hj : j < xs.length * 2 := by
    have := (List.getElem?_eq_some_iff.1 h).1
    rwa [pcv_length] at this
  obtain ⟨e0, e1⟩ := pcv_get xs (j / 2) (by omega)
  refine ⟨j / 2, by omega, ?_⟩
  obtain h3 | h3 : j = j / 2 * 2 ∨ j = j / 2 * 2 + 1 := by omega
  · rw [← h3] at e0; rw [e0] at h; exact .inl ⟨h3, (Option.some.inj h).symm⟩
  · rw [← h3] at e1; rw [e1] at h; exact .inr ⟨h3, (Option.some.inj h).symm⟩
/-- A slice of pieces: nil, or it leads to cells that hold them. -/
structure Pc (w : World) (a : Option Addr) (n cap : Nat) (xs : List (Nat × Bool)) : Prop where
  len : xs.length = n
  le : n ≤ cap
  mx : cap ≤ maxLen
  nil : a = none → n = 0 ∧ cap = 0
  at' : 0 < n → ∃ b off, a = some ⟨b, off, none⟩ ∧ b < w.heap.size ∧ ∀ i, i < n → w.cell? ⟨b, off + i * 2, none⟩ = some (.int .i64 ((pt xs i).1 : Nat)) ∧ w.cell? ⟨b, off + i * 2 + 1, none⟩ = some (.bool (pt xs i).2)
theorem Pc.below {w w' : World} {a : Option Addr} {n cap : Nat} {xs : List (Nat × Bool)} (h : Pc w a n cap xs) (hb : Below w.heap.size w w') : Pc w' a n cap xs :=
  ⟨h.len, h.le, h.mx, h.nil, fun hn => by
    obtain ⟨b, off, rfl, hlt, hc⟩ := h.at' hn
    exact ⟨b, off, rfl, Nat.lt_of_lt_of_le hlt hb.size, fun i hi => ⟨by rw [hb.cell (p := ⟨b, off + i * 2, none⟩) hlt]; exact (hc i hi).1, by rw [hb.cell (p := ⟨b, off + i * 2 + 1, none⟩) hlt]; exact (hc i hi).2⟩⟩⟩
theorem Pc.src {w : World} {a : Option Addr} {n cap : Nat} {xs : List (Nat × Bool)} (h : Pc w a n cap xs) : Src w a n cap 2 (pcv xs) :=
  ⟨by rw [pcv_length, h.len], pcv_one xs, h.nil, fun ad ha j u hu => by
    obtain ⟨i, hi, hj⟩ := pcv_inv hu
    rw [h.len] at hi
    obtain ⟨b, off, hab, _, hc⟩ := h.at' (by omega)
    rw [ha] at hab
    cases hab
    rw [Addr.add_lit]
    rcases hj with ⟨rfl, rfl⟩ | ⟨rfl, rfl⟩
    · exact (hc i hi).1
    · exact (hc i hi).2⟩
theorem Pc.ofOwn {w : World} {base : Nat} {e : TypeId} {v : Value} {n : Nat} {xs : List (Nat × Bool)} (h : w.ownsRow base e 2 v n (pcv xs)) : ∃ a cap, v = .slice a n cap ∧ Pc w a n cap xs := by
  obtain ⟨hl, h⟩ := h
  rw [pcv_length] at hl
  rcases h with ⟨rfl, rfl⟩ | ⟨g, cap, cur, rfl, hb, hg, hn, hm, hs, ht⟩
  · exact ⟨_, 0, rfl, by omega, by omega, Nat.zero_le _, fun _ => ⟨rfl, rfl⟩, fun h => absurd h (by omega)⟩
  · refine ⟨_, cap, rfl, by omega, hn, hm, fun h => absurd h (by simp), fun h0 => ⟨g, 0, rfl, (Array.getElem?_eq_some_iff.1 hg).1, fun i hi => ?_⟩⟩
    have key : ∀ j x, (pcv xs)[j]? = some x → w.cell? ⟨g, 0 + j, .none⟩ = some x := fun j x hj => by
      have hj' : j < n * 2 := by
        have := (List.getElem?_eq_some_iff.1 hj).1
        rw [pcv_length] at this
        omega
      rw [← ht, List.getElem?_take_of_lt hj'] at hj
      have e2 : cur[j]? = some x := by simpa using hj
      simp [World.cell?, hg, e2]
    have q := pcv_get xs i (by omega)
    exact ⟨key _ _ q.1, key _ _ q.2⟩
theorem Pc.ofOwn' {w : World} {base : Nat} {e : TypeId} {a : Option Addr} {n cap : Nat} {xs : List (Nat × Bool)} (h : w.ownsRow base e 2 (.slice a n cap) n (pcv xs)) : Pc w a n cap xs := by
  obtain ⟨a2, c2, e2, h2⟩ := Pc.ofOwn h
  cases e2
  exact h2
/-- One piece that was just laid, as what is appended. -/
theorem src_pc {w : World} (n : Int) (d : Bool) (ty : TypeId) : Src (w.alloc (.cells #[.int .i64 n, .bool d] ty)) (some ⟨w.heap.size, 0, none⟩) 1 1 2 [.int .i64 n, .bool d] :=
  Src.new #[.int .i64 n, .bool d] ty w.heap.size rfl rfl (fun u hu => by simp at hu; rcases hu with rfl | rfl <;> rfl)
end Go.Proofs.YtiheagkgpbkkfaaDoor
