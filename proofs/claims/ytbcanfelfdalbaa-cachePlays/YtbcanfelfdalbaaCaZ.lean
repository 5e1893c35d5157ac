/-
  A whole cache in memory: its entries in a circle, its map, its rows.
-/
import Derived.Test.YtbcanfelfdalbaaCaM
namespace Go.Proofs.Ytbcanfelfdalbaa
open Go.RowKit Go.Maps Ca
set_option linter.unusedVariables false
/-- An entry's row is its own. -/
def Hd (w : World) (S : Nat → Prop) (B M g : Nat) (q : En) : Prop :=
  w.ownsRow 0 3 1 (sv q.v) q.x.length (iv q.x) ∧ (∀ b, (sv q.v).ownBlock = some b → S b ∧ b ≠ B ∧ b ≠ M ∧ b ≠ g) ∧ q.x.length ≤ 1000000 ∧ q.k.size ≤ 1000000
theorem own_base {w : World} {b b' : Nat} {t : TypeId} {z : Nat} {v : Value} {n : Nat} {xs : List Value} (h : w.ownsRow b t z v n xs) (hb : b' ≤ b) : w.ownsRow b' t z v n xs := by
  refine ⟨h.1, ?_⟩
  rcases h.2 with q | ⟨g, cap, cur, hv, hB, rest⟩
  · exact .inl q
  · exact .inr ⟨g, cap, cur, hv, Nat.le_trans hb hB, rest⟩
theorem Hd.mut {w w' : World} {S T : Nat → Prop} {B M g : Nat} {q : En} (h : Hd w S B M g q) (hm : Mut T w w') (hT : ∀ k, T k → k = B ∨ k = M ∨ k = g ∨ ¬ S k) : Hd w' S B M g q := by
  obtain ⟨h1, h2, h3⟩ := h
  refine ⟨own_mut h1 hm (fun k hk e => ?_), h2, h3⟩
  obtain ⟨a, b, c, d⟩ := h2 k hk
  rcases hT k e with h | h | h | h
  · exact b h
  · exact c h
  · exact d h
  · exact h a
theorem Hd.congr {w : World} {S : Nat → Prop} {B M g : Nat} {q q' : En} (h : Hd w S B M g q) (e : q'.k = q.k ∧ q'.v = q.v ∧ q'.x = q.x) : Hd w S B M g q' := by
  unfold Hd
  rw [e.1, e.2.1, e.2.2]
  exact h
theorem Hd.ir {w : World} {S : Nat → Prop} {B M g : Nat} {q : En} (h : Hd w S B M g q) : Ir w q.v.1 q.v.2.1 q.v.2.2 q.x ∧ q.v.2.1 = q.x.length := by
  obtain ⟨a, c, e, hI⟩ := Ir.ofOwn h.1
  unfold sv at e
  simp only [Value.slice.injEq] at e
  obtain ⟨e1, e2, e3⟩ := e
  rw [e1, e2, e3]
  exact ⟨hI, rfl⟩
def pk (e : Nat → En) (p : List Nat) : List (ByteArray × Nat) := p.map fun i => ((e i).k, i)
def pl (e : Nat → En) (p : List Nat) : Kl := p.map fun i => ((e i).k, (e i).x)
theorem pl_len (e : Nat → En) (p : List Nat) : (pl e p).length = p.length := by simp [pl]
structure Cz (w : World) (B M g cap n room h m : Nat) (e : Nat → En) (p : List Nat) (S : Nat → Prop) : Prop where
  cr : Cr w B M g cap n room h m e
  len : n = p.length + 1
  nd : (0 :: p).Nodup
  lt : ∀ i ∈ p, i < n
  ci : Ci e p
  kd : p.Pairwise fun i j => (e i).k ≠ (e j).k
  hd : ∀ i ∈ p, Hd w S B M g (e i)
  mp : Mp w M (pk e p)
  own : S B ∧ S M ∧ S g ∧ B ≠ M ∧ M ≠ g
  sz : ∀ k, S k → k < w.heap.size
section
variable {w w' : World} {B M g cap n room h m a : Nat} {e e1 : Nat → En} {p p0 : List Nat} {S S' : Nat → Prop}
theorem Cz.mut (Z : Cz w B M g cap n room h m e p S) {T : Nat → Prop} (hm : Mut T w w') (hT : ∀ k, T k → ¬ S k) : Cz w' B M g cap n room h m e p S :=
  ⟨Z.cr.mut hm (fun k => hT _ k Z.own.1) (fun k => hT _ k Z.own.2.2.1), Z.len, Z.nd, Z.lt, Z.ci, Z.kd, fun i hi => (Z.hd i hi).mut hm (fun k hk => .inr (.inr (.inr (hT k hk)))), Z.mp.mut hm (fun k => hT _ k Z.own.2.1), Z.own, fun k hk => Nat.lt_of_lt_of_le (Z.sz k hk) hm.size⟩
theorem Cz.dis (Z : Cz w B M g cap n room h m e p S) : Dis (pl e p) := by
  unfold pl Dis
  rw [List.pairwise_map]
  exact Z.kd
theorem Cz.one (Z : Cz w B M g cap n room h m e p S) {i j : Nat} (hi : i ∈ p) (hj : j ∈ p) (hk : (e i).k = (e j).k) : i = j := by
  have hd := Z.kd
  clear Z
  induction p with
  | nil => cases hi
  | cons y l ih =>
    obtain ⟨h1, h2⟩ := List.pairwise_cons.1 hd
    rcases List.mem_cons.1 hi with e1 | hi' <;> rcases List.mem_cons.1 hj with e2 | hj'
    · rw [e1, e2]
    · exact absurd (by rw [← e1]; exact hk) (h1 j hj')
    · exact absurd (by rw [← e2]; exact hk.symm) (h1 i hi')
    · exact ih hi' hj' h2
theorem pk_mem {s : ByteArray} {i : Nat} : (s, i) ∈ pk e p ↔ i ∈ p ∧ (e i).k = s := by
  unfold pk
  rw [List.mem_map]
  constructor
  · rintro ⟨j, hj, e⟩
    simp only [Prod.mk.injEq] at e
    obtain ⟨e1, e2⟩ := e
    subst e2
    exact ⟨hj, e1⟩
  · rintro ⟨h1, h2⟩
    exact ⟨i, h1, by rw [h2]⟩
theorem pl_none {s : ByteArray} (h : ∀ i, (s, i) ∉ pk e p) : ∀ x ∈ pl e p, x.1 ≠ s := by
  intro x hx hs
  unfold pl at hx
  obtain ⟨i, hi, rfl⟩ := List.mem_map.1 hx
  exact h i (pk_mem.2 ⟨hi, hs⟩)
theorem Cz.wo (Z : Cz w B M g cap n room h m e p S) (ha : a ∈ p) : Ca.wo (pl e p) (e a).k = pl e (p.erase a) := by
  have h1 : ∀ i ∈ p, (by_ (e i).k = by_ (e a).k ↔ i = a) := fun i hi => ⟨fun h => Z.one hi ha (by_inj h), fun h => by rw [h]⟩
  have hnd := (List.nodup_cons.1 Z.nd).2
  clear Z
  unfold Ca.wo pl
  rw [List.filter_map, hnd.erase_eq_filter]
  congr 1
  refine List.filter_congr (fun i hi => ?_)
  show (!decide (by_ (e i).k = by_ (e a).k)) = (i != a)
  rw [show decide (by_ (e i).k = by_ (e a).k) = decide (i = a) from decide_eq_decide.2 (h1 i hi)]
  by_cases e2 : i = a <;> simp [e2]
/-- A cache in which one was made the newest. -/
theorem cz_make (len : n = p0.length + 2) (nd : (0 :: (p0 ++ [a])).Nodup) (lt : ∀ i ∈ p0 ++ [a], i < n) (ci : Ci (rn e1 a) (p0 ++ [a])) (kd : p0.Pairwise fun i j => (e i).k ≠ (e j).k)
    (sm : ∀ i ∈ p0, (e1 i).k = (e i).k ∧ (e1 i).v = (e i).v ∧ (e1 i).x = (e i).x) (kn : ∀ i ∈ p0, (e i).k ≠ (e1 a).k) (hd : ∀ i ∈ p0, Hd w' S B M g (e i)) (ha : Hd w' S B M g (e1 a)) (cr : Cr w' B M g cap n room h m (rn e1 a))
    {ks : List (ByteArray × Nat)} (mp : Mp w' M ks) (hks : ks.length = p0.length + 1) (mem : ∀ s i, (s, i) ∈ ks ↔ (i ∈ p0 ∧ (e i).k = s) ∨ ((e1 a).k = s ∧ i = a)) (own : S B ∧ S M ∧ S g ∧ B ≠ M ∧ M ≠ g) (sz : ∀ k, S k → k < w'.heap.size) :
    Cz w' B M g cap n room h m (rn e1 a) (p0 ++ [a]) S ∧ pl (rn e1 a) (p0 ++ [a]) = pl e p0 ++ [((e1 a).k, (e1 a).x)] := by
  have R := rn_sm e1 a
  have Q : ∀ i ∈ p0, (rn e1 a i).k = (e i).k ∧ (rn e1 a i).v = (e i).v ∧ (rn e1 a i).x = (e i).x := fun i hi => ⟨(R i).1.trans (sm i hi).1, (R i).2.1.trans (sm i hi).2.1, (R i).2.2.trans (sm i hi).2.2⟩
  refine ⟨⟨cr, by rw [len]; simp, nd, lt, ci, ?_, fun i hi => ?_, mp.congr (by rw [hks]; simp [pk]) (fun x => ?_), own, sz⟩, ?_⟩
  · rw [List.pairwise_append]
    refine ⟨kd.imp_of_mem (fun {i j} hi hj h => by rw [(Q i hi).1, (Q j hj).1]; exact h), by simp, fun i hi j hj => ?_⟩
    rw [List.mem_singleton.1 hj, (Q i hi).1, (R a).1]
    exact kn i hi
  · rcases List.mem_append.1 hi with h1 | h1
    · exact (hd i h1).congr (Q i h1)
    · rw [List.mem_singleton.1 h1]; exact ha.congr (R a)
  · obtain ⟨s, i⟩ := x
    rw [mem, pk_mem, List.mem_append, List.mem_singleton]
    constructor
    · rintro (⟨h1, h2⟩ | ⟨h1, rfl⟩)
      · exact ⟨.inl h1, by rw [(Q i h1).1, h2]⟩
      · exact ⟨.inr rfl, by rw [(R _).1, h1]⟩
    · rintro ⟨h1 | rfl, h2⟩
      · exact .inl ⟨h1, by rw [← (Q i h1).1, h2]⟩
      · exact .inr ⟨by rw [← (R _).1, h2], rfl⟩
  · unfold pl
    rw [List.map_append]
    congr 1
    · exact List.map_congr_left (fun i hi => by rw [(Q i hi).1, (Q i hi).2.2])
    · show [((rn e1 a a).k, (rn e1 a a).x)] = _
      rw [(R a).1, (R a).2.2]
theorem nodup_last (Z : (0 :: p).Nodup) (ha : a ∈ p) : (0 :: (p.erase a ++ [a])).Nodup ∧ (p.erase a).length + 1 = p.length := by
  obtain ⟨h1, h2⟩ := List.nodup_cons.1 Z
  have h3 : ∀ i, i ∈ p.erase a ↔ i ∈ p ∧ i ≠ a := fun i => by rw [h2.mem_erase_iff]; exact ⟨fun ⟨x, y⟩ => ⟨y, x⟩, fun ⟨x, y⟩ => ⟨y, x⟩⟩
  refine ⟨List.nodup_cons.2 ⟨fun h => ?_, List.nodup_append.2 ⟨h2.erase a, by simp, fun i hi j hj e => ?_⟩⟩, ?_⟩
  · rcases List.mem_append.1 h with h | h
    · exact h1 ((h3 _).1 h).1
    · exact h1 (by rw [List.mem_singleton.1 h]; exact ha)
  · rw [List.mem_singleton.1 hj] at e
    exact ((h3 i).1 hi).2 e
  · have := List.length_erase_of_mem ha
    have := List.length_pos_of_mem ha
    omega
/-- As cz_make, of one that was in the circle. -/
theorem cz_in (Z : Cz w B M g cap n room h m e p S) (ha : a ∈ p) {h' m' : Nat} (hon : ∀ i, (e1 i).o = (e i).o ∧ (e1 i).n = (e i).n)
    (sm : ∀ i, i ≠ a → (e1 i).k = (e i).k ∧ (e1 i).v = (e i).v ∧ (e1 i).x = (e i).x) (kn : ∀ i ∈ p, i ≠ a → (e i).k ≠ (e1 a).k) (hS : ∀ k, S k → S' k) (hm : Mut (fun k => k = B ∨ k = M ∨ k = g) w w') (hx : Hd w' S' B M g (e1 a)) (cr : Cr w' B M g cap n room h' m' (rn e1 a))
    {ks : List (ByteArray × Nat)} (mp : Mp w' M ks) (hks : ks.length = p.length) (mem : ∀ s i, (s, i) ∈ ks ↔ (i ∈ p ∧ i ≠ a ∧ (e i).k = s) ∨ ((e1 a).k = s ∧ i = a)) (sz : ∀ k, S' k → k < w'.heap.size) :
    Cz w' B M g cap n room h' m' (rn e1 a) (p.erase a ++ [a]) S' ∧ pl (rn e1 a) (p.erase a ++ [a]) = pl e (p.erase a) ++ [((e1 a).k, (e1 a).x)] := by
  obtain ⟨n1, n2⟩ := nodup_last Z.nd ha
  have hnd := (List.nodup_cons.1 Z.nd).2
  have h3 : ∀ i, i ∈ p.erase a ↔ i ∈ p ∧ i ≠ a := fun i => by rw [hnd.mem_erase_iff]; exact ⟨fun ⟨x, y⟩ => ⟨y, x⟩, fun ⟨x, y⟩ => ⟨y, x⟩⟩
  have c1 : Ci e1 p := Z.ci.congr hon
  refine cz_make (by have := Z.len; omega) n1 (fun i hi => ?_) (ci_in c1 Z.nd ha).1 (Z.kd.sublist List.erase_sublist) (fun i hi => sm i ((h3 i).1 hi).2) (fun i hi => kn i ((h3 i).1 hi).1 ((h3 i).1 hi).2) (fun i hi => ?_) hx cr mp (by omega) (fun s i => ?_) ⟨hS _ Z.own.1, hS _ Z.own.2.1, hS _ Z.own.2.2.1, Z.own.2.2.2⟩ sz
  · rcases List.mem_append.1 hi with h | h
    · exact Z.lt i ((h3 i).1 h).1
    · rw [List.mem_singleton.1 h]; exact Z.lt a ha
  · have q := (Z.hd i ((h3 i).1 hi).1).mut hm (fun k hk => by rcases hk with h | h | h <;> simp [h])
    exact ⟨q.1, fun b hb => ⟨hS _ (q.2.1 b hb).1, (q.2.1 b hb).2⟩, q.2.2⟩
  · rw [mem, h3]
    constructor
    · rintro (⟨x, y, z⟩ | h)
      · exact .inl ⟨⟨x, y⟩, z⟩
      · exact .inr h
    · rintro (⟨⟨x, y⟩, z⟩ | h)
      · exact .inl ⟨x, y, z⟩
      · exact .inr h
/-- The places of those next to it. -/
theorem Cz.bounds (Z : Cz w B M g cap n room h m e p S) (ha : a ∈ p) (hon : ∀ i, (e1 i).o = (e i).o ∧ (e1 i).n = (e i).n) : a < n ∧ (e1 a).o < n ∧ (e1 a).n < n ∧ (mid e1 a 0).o < n := by
  have hn : 0 < n := by have := Z.len; omega
  have c1 : Ci e1 p := Z.ci.congr hon
  obtain ⟨n1, n2⟩ := nodup_last Z.nd ha
  have hnd := (List.nodup_cons.1 Z.nd).2
  have b1 := c1.on Z.lt hn a (.inr ha)
  have b2 := (ci_in c1 Z.nd ha).2.on (n := n) (fun i hi => Z.lt i (List.mem_of_mem_erase hi)) hn 0 (.inl rfl)
  exact ⟨Z.lt a ha, b1.1, b1.2, b2.1⟩
end
end Go.Proofs.Ytbcanfelfdalbaa
