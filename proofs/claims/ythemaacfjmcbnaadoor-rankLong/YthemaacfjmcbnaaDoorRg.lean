/-
  A ring in memory (a block of five cells, and a row of things of one cell each), told by functions; and what a call that writes into some blocks alone leaves as it was. No program is named here.
-/
import Derived.Test.YthemaacfjmcbnaaDoorOwn
import Derived.Laws.CopyOwn
import Derived.WalkSmall
namespace Go.Proofs.YthemaacfjmcbnaaDoor
open Go.RowKit

/-- The values of n numbers of kind K. -/
def kv (K : IntKind) (f : Nat → Int) (n : Nat) : List Value := (List.range n).map fun i => .int K (f i)
theorem kv_length (K : IntKind) (f : Nat → Int) (n : Nat) : (kv K f n).length = n := by simp [kv]
theorem kv_get (K : IntKind) (f : Nat → Int) (n i : Nat) (h : i < n) : (kv K f n)[i]? = some (.int K (f i)) := by simp [kv, h]
theorem kv_inv {K : IntKind} {f : Nat → Int} {n i : Nat} {u : Value} (h : (kv K f n)[i]? = some u) : i < n ∧ u = .int K (f i) := by
  have hi : i < n := by
    have := (List.getElem?_eq_some_iff.1 h).1
    rwa [kv_length] at this
  rw [kv_get K f n i hi] at h
  exact ⟨hi, (Option.some.inj h).symm⟩
theorem kv_none (K : IntKind) (f : Nat → Int) (n i : Nat) (h : n ≤ i) : (kv K f n)[i]? = none := List.getElem?_eq_none (by rw [kv_length]; exact h)
theorem kv_one (K : IntKind) (f : Nat → Int) (n : Nat) : ∀ u ∈ kv K f n, u.oneCell' = true := by
  intro u hu
  simp only [kv, List.mem_map] at hu
  obtain ⟨i, _, rfl⟩ := hu
  rfl
theorem kv_congr {K : IntKind} {f g : Nat → Int} {n : Nat} (h : ∀ i, i < n → f i = g i) : kv K f n = kv K g n := by
  unfold kv
  apply List.map_congr_left
  intro i hi
  rw [h i (by simpa using hi)]
theorem kv_snoc (K : IntKind) (f : Nat → Int) (n : Nat) : kv K f n ++ [.int K (f n)] = kv K f (n + 1) := by
  unfold kv; rw [List.range_succ, List.map_append]; rfl
/-- One thing more behind n. -/
def sn (f : Nat → Int) (n : Nat) (x : Int) : Nat → Int := fun i => if i < n then f i else x
theorem sn_lt {f : Nat → Int} {n : Nat} {x : Int} {i : Nat} (h : i < n) : sn f n x i = f i := by simp [sn, h]
theorem sn_eq (f : Nat → Int) (n : Nat) (x : Int) : sn f n x n = x := by simp [sn]
theorem kv_sn (K : IntKind) (f : Nat → Int) (n : Nat) (x : Int) : kv K f n ++ [.int K x] = kv K (sn f n x) (n + 1) := by
  rw [← kv_snoc, sn_eq, kv_congr (f := sn f n x) (g := f) (fun i hi => sn_lt hi)]
/-- One place turned. -/
def upd (g : Nat → Int) (p : Nat) (x : Int) : Nat → Int := fun i => if i = p then x else g i
theorem upd_eq (g : Nat → Int) (p : Nat) (x : Int) : upd g p x p = x := by simp [upd]
theorem upd_ne {g : Nat → Int} {p : Nat} {x : Int} {i : Nat} (h : i ≠ p) : upd g p x i = g i := by simp [upd, h]
theorem kv_set (K : IntKind) (g : Nat → Int) (n p : Nat) (x : Int) : (kv K g n).set p (.int K x) = kv K (upd g p x) n := by
  apply List.ext_getElem?
  intro i
  rw [List.getElem?_set]
  by_cases hi : i < n
  · rw [kv_get _ _ _ _ hi, kv_get _ _ _ _ hi, kv_length]
    by_cases hp : p = i
    · subst hp; rw [if_pos rfl, if_pos hi, upd_eq]
    · rw [if_neg hp, upd_ne (Ne.symm hp)]
  · rw [kv_none _ _ _ _ (by omega), kv_none _ _ _ _ (by omega), kv_length]
    by_cases hp : p = i
    · subst hp; rw [if_pos rfl, if_neg hi]
    · rw [if_neg hp]

/-- But for the blocks in S the world w' is as w was, as far as w went. -/
structure Mut (S : Nat → Prop) (w w' : World) : Prop where
  os : w'.os = w.os
  tape : w'.tape = w.tape
  output : w'.output = w.output
  size : w.heap.size ≤ w'.heap.size
  block : ∀ k, k < w.heap.size → ¬ S k → w'.heap[k]? = w.heap[k]?
theorem Mut.refl (S : Nat → Prop) (w : World) : Mut S w w := ⟨rfl, rfl, rfl, Nat.le_refl _, fun _ _ _ => rfl⟩
theorem Mut.trans {S S' : Nat → Prop} {a b c : World} (h : Mut S a b) (k : Mut S' b c) (hS : ∀ i, i < a.heap.size → S' i → S i) : Mut S a c :=
  ⟨k.os.trans h.os, k.tape.trans h.tape, k.output.trans h.output, Nat.le_trans h.size k.size, fun i hi hn => (k.block i (Nat.lt_of_lt_of_le hi h.size) (fun e => hn (hS i hi e))).trans (h.block i hi hn)⟩
theorem Mut.ofBelow {w w' : World} (h : Below w.heap.size w w') (S : Nat → Prop) : Mut S w w' := ⟨h.os, h.tape, h.output, h.size, fun k hk _ => h.block k hk⟩
theorem Mut.below {S : Nat → Prop} {w w' : World} (h : Mut S w w') {B : Nat} (hB : B ≤ w.heap.size) (hS : ∀ k, S k → B ≤ k) : Below B w w' :=
  ⟨h.os, h.tape, h.output, h.size, fun k hk => h.block k (by omega) (fun e => by have := hS k e; omega)⟩
theorem Mut.set (w : World) (b j : Nat) (u : Value) {S : Nat → Prop} (hb : S b) : Mut S w (w.setCell ⟨b, j, none⟩ u) :=
  ⟨rfl, rfl, rfl, by simp [World.setCell], fun k _ hn => Below.heap_setCell _ _ _ _ (fun e => hn (by simp at e; rw [e]; exact hb))⟩
theorem Mut.drewN (S : Nat → Prop) (w : World) (m : Nat) : Mut S w (w.drewN m) := Mut.ofBelow (below_drewN (Below.refl _ _) m) S
theorem Mut.cell {S : Nat → Prop} {w w' : World} (h : Mut S w w') {b j : Nat} (hlt : b < w.heap.size) (hn : ¬ S b) : w'.cell? ⟨b, j, none⟩ = w.cell? ⟨b, j, none⟩ := World.cell?_of_block (h.block b hlt hn)

/-- The blocks of a ring. -/
def own (B : Nat) (o : Option Nat) : Nat → Prop := fun k => k = B ∨ o = some k

/-- A ring, as it lies: its five cells, and its row g of n things. -/
structure Rb (w : World) (T E : TypeId) (K : IntKind) (B : Nat) (o : Option Nat) (room fr cnt n first : Nat) (g : Nat → Int) : Prop where
  blk : w.heap[B]? = some (.cells #[.int .i64 room, .int .i64 fr, .int .i64 cnt, .slice (o.map fun D => ⟨D, 0, none⟩) n n, .int .i64 first] T (0, 0))
  row : ∀ D, o = some D → D ≠ B ∧ first < n ∧ w.heap[D]? = some (.cells (kv K g n).toArray E (0, 0))
  nil : o = none → n = 0 ∧ first = 0
  le : cnt ≤ n
  lr : n ≤ room
  mx : room ≤ 1048576
section
variable {w : World} {T E : TypeId} {K : IntKind} {B : Nat} {o : Option Nat} {room fr cnt n first : Nat} {g : Nat → Int}
theorem Rb.lt (h : Rb w T E K B o room fr cnt n first g) : B < w.heap.size := (Array.getElem?_eq_some_iff.1 h.blk).1
theorem Rb.ltD (h : Rb w T E K B o room fr cnt n first g) {D : Nat} (ho : o = some D) : D < w.heap.size := (Array.getElem?_eq_some_iff.1 (h.row D ho).2.2).1
theorem Rb.ltOwn (h : Rb w T E K B o room fr cnt n first g) {k : Nat} (hk : own B o k) : k < w.heap.size := by
  rcases hk with rfl | hk
  · exact h.lt
  · exact h.ltD hk
theorem Rb.c0 (h : Rb w T E K B o room fr cnt n first g) : w.cell? ⟨B, 0, none⟩ = some (.int .i64 room) := by simp [World.cell?, h.blk]
theorem Rb.c1 (h : Rb w T E K B o room fr cnt n first g) : w.cell? ⟨B, 1, none⟩ = some (.int .i64 fr) := by simp [World.cell?, h.blk]
theorem Rb.c2 (h : Rb w T E K B o room fr cnt n first g) : w.cell? ⟨B, 2, none⟩ = some (.int .i64 cnt) := by simp [World.cell?, h.blk]
theorem Rb.c3 (h : Rb w T E K B o room fr cnt n first g) : w.cell? ⟨B, 3, none⟩ = some (.slice (o.map fun D => ⟨D, 0, none⟩) n n) := by simp [World.cell?, h.blk]
theorem Rb.c4 (h : Rb w T E K B o room fr cnt n first g) : w.cell? ⟨B, 4, none⟩ = some (.int .i64 first) := by simp [World.cell?, h.blk]
theorem Rb.fz (h : Rb w T E K B o room fr cnt n first g) (j : Nat) : w.frozen? ⟨B, j, none⟩ = false := by simp [World.frozen?, h.blk]
theorem Rb.pos (h : Rb w T E K B o room fr cnt n first g) (hn : 0 < n) : ∃ D, o = some D := by
  cases o with
  | none => have := (h.nil rfl).1; omega
  | some D => exact ⟨D, rfl⟩
theorem Rb.cd {D : Nat} (h : Rb w T E K B (some D) room fr cnt n first g) (p : Nat) (hp : p < n) : w.cell? ⟨D, p, none⟩ = some (.int K (g p)) := by
  have e := kv_get K g n p hp
  simp only [World.cell?, (h.row D rfl).2.2]
  simpa using e
theorem Rb.fzd {D : Nat} (h : Rb w T E K B (some D) room fr cnt n first g) (p : Nat) : w.frozen? ⟨D, p, none⟩ = false := by simp [World.frozen?, (h.row D rfl).2.2]
/-- Over a call that leaves the ring's blocks alone. -/
theorem Rb.kept (h : Rb w T E K B o room fr cnt n first g) {S : Nat → Prop} {w' : World} (hm : Mut S w w') (hS : ∀ k, own B o k → ¬ S k) : Rb w' T E K B o room fr cnt n first g :=
  ⟨by rw [hm.block B h.lt (hS B (.inl rfl))]; exact h.blk, fun D ho => ⟨(h.row D ho).1, (h.row D ho).2.1, by rw [hm.block D (h.ltD ho) (hS D (.inr ho))]; exact (h.row D ho).2.2⟩, h.nil, h.le, h.lr, h.mx⟩
theorem Rb.below (h : Rb w T E K B o room fr cnt n first g) {w' : World} (hb : Below w.heap.size w w') : Rb w' T E K B o room fr cnt n first g := h.kept (Mut.ofBelow hb fun _ => False) fun _ _ e => e
theorem Rb.drewN (h : Rb w T E K B o room fr cnt n first g) (m : Nat) : Rb (w.drewN m) T E K B o room fr cnt n first g := h.below (below_drewN (Below.refl _ _) m)
theorem Rb.drew (h : Rb w T E K B o room fr cnt n first g) : Rb w.drew T E K B o room fr cnt n first g := h.below (Below.refl _ _).drew
theorem set_row_other (w : World) {b k j : Nat} (u : Value) (h : k ≠ b) : (w.setCell ⟨b, j, none⟩ u).heap[k]? = w.heap[k]? := Below.heap_setCell _ _ _ _ (by simpa using h)
/-- Stores into the ring's own cells. -/
theorem Rb.setFrom (h : Rb w T E K B o room fr cnt n first g) (c : Nat) (z : Int) (hz : z = c) : Rb (w.setCell ⟨B, 1, none⟩ (.int .i64 z)) T E K B o room c cnt n first g := by
  subst hz
  exact ⟨by rw [heap_setCell_same w B 1 _ T _ h.blk]; rfl, fun D ho => ⟨(h.row D ho).1, (h.row D ho).2.1, by rw [set_row_other w _ (h.row D ho).1]; exact (h.row D ho).2.2⟩, h.nil, h.le, h.lr, h.mx⟩
theorem Rb.setCount (h : Rb w T E K B o room fr cnt n first g) (c : Nat) (z : Int) (hz : z = c) (hc : c ≤ n) : Rb (w.setCell ⟨B, 2, none⟩ (.int .i64 z)) T E K B o room fr c n first g := by
  subst hz
  exact ⟨by rw [heap_setCell_same w B 2 _ T _ h.blk]; rfl, fun D ho => ⟨(h.row D ho).1, (h.row D ho).2.1, by rw [set_row_other w _ (h.row D ho).1]; exact (h.row D ho).2.2⟩, h.nil, hc, h.lr, h.mx⟩
theorem Rb.setFirst (h : Rb w T E K B o room fr cnt n first g) (c : Nat) (z : Int) (hz : z = c) (hc : c < n) : Rb (w.setCell ⟨B, 4, none⟩ (.int .i64 z)) T E K B o room fr cnt n c g := by
  subst hz
  exact ⟨by rw [heap_setCell_same w B 4 _ T _ h.blk]; rfl, fun D ho => ⟨(h.row D ho).1, hc, by rw [set_row_other w _ (h.row D ho).1]; exact (h.row D ho).2.2⟩, fun e => by have := (h.nil e).1; omega, h.le, h.lr, h.mx⟩
/-- Another row. -/
theorem Rb.setRow (h : Rb w T E K B o room fr cnt n first g) (D n' : Nat) (g' : Nat → Int) (hD : D ≠ B) (hd : w.heap[D]? = some (.cells (kv K g' n').toArray E (0, 0))) (hc : cnt ≤ n') (hr : n' ≤ room) (h0 : 0 < n') :
    Rb ((w.setCell ⟨B, 3, none⟩ (.slice (some ⟨D, 0, none⟩) n' n')).setCell ⟨B, 4, none⟩ (.int .i64 0)) T E K B (some D) room fr cnt n' 0 g' := by
  refine ⟨?_, fun D' ho => ?_, fun e => (by cases e), hc, hr, h.mx⟩
  · rw [heap_setCell_same _ B 4 _ T _ (heap_setCell_same w B 3 _ T _ h.blk)]; rfl
  · cases ho
    exact ⟨hD, h0, by rw [set_row_other _ _ hD, set_row_other _ _ hD]; exact hd⟩
/-- A store into the row. -/
theorem Rb.put {D : Nat} (h : Rb w T E K B (some D) room fr cnt n first g) (p : Nat) (x : Int) : Rb (w.setCell ⟨D, p, none⟩ (.int K x)) T E K B (some D) room fr cnt n first (upd g p x) := by
  obtain ⟨h1, h2, h3⟩ := h.row D rfl
  refine ⟨by rw [set_row_other w _ (Ne.symm h1)]; exact h.blk, fun D' ho => ?_, fun e => (by cases e), h.le, h.lr, h.mx⟩
  cases ho
  refine ⟨h1, h2, ?_⟩
  rw [heap_setCell_same w D p _ E _ h3]
  congr 2
  rw [← kv_set]
  simp
end

/-- A ring that holds f. -/
def Rn (w : World) (T E : TypeId) (K : IntKind) (B : Nat) (o : Option Nat) (room fr cnt : Nat) (f : Nat → Int) : Prop :=
  ∃ n first g, Rb w T E K B o room fr cnt n first g ∧ ∀ i, i < cnt → g ((first + i) % n) = f i
section
variable {w : World} {T E : TypeId} {K : IntKind} {B : Nat} {o : Option Nat} {room fr cnt : Nat} {f : Nat → Int}
theorem Rn.kept (h : Rn w T E K B o room fr cnt f) {S : Nat → Prop} {w' : World} (hm : Mut S w w') (hS : ∀ k, own B o k → ¬ S k) : Rn w' T E K B o room fr cnt f := by
  obtain ⟨n, first, g, hb, hv⟩ := h
  exact ⟨n, first, g, hb.kept hm hS, hv⟩
theorem Rn.below (h : Rn w T E K B o room fr cnt f) {w' : World} (hb : Below w.heap.size w w') : Rn w' T E K B o room fr cnt f := h.kept (Mut.ofBelow hb fun _ => False) fun _ _ e => e
theorem Rn.ltOwn (h : Rn w T E K B o room fr cnt f) {k : Nat} (hk : own B o k) : k < w.heap.size := by
  obtain ⟨n, first, g, hb, _⟩ := h
  exact hb.ltOwn hk
theorem Rn.congr (h : Rn w T E K B o room fr cnt f) {f' : Nat → Int} (hf : ∀ i, i < cnt → f i = f' i) : Rn w T E K B o room fr cnt f' := by
  obtain ⟨n, first, g, hb, hv⟩ := h
  exact ⟨n, first, g, hb, fun i hi => (hv i hi).trans (hf i hi)⟩
theorem Rn.cle (h : Rn w T E K B o room fr cnt f) : cnt ≤ room := by
  obtain ⟨n, first, g, hb, _⟩ := h
  exact Nat.le_trans hb.le hb.lr
theorem Rn.mx (h : Rn w T E K B o room fr cnt f) : room ≤ 1048576 := by
  obtain ⟨n, first, g, hb, _⟩ := h
  exact hb.mx
end

/-! Places of a ring: (first + i) % n. -/
theorem pl_lt {first n i : Nat} (hn : 0 < n) : (first + i) % n < n := Nat.mod_lt _ hn
theorem mod_two {a n : Nat} (h : a < 2 * n) : a % n = if a < n then a else a - n := by
  split
  · exact Nat.mod_eq_of_lt (by assumption)
  · rw [Nat.mod_eq_sub_mod (by omega)]; exact Nat.mod_eq_of_lt (by omega)
theorem pl_ne {first n i j : Nat} (hf : first < n) (hi : i < n) (hj : j < n) (h : i ≠ j) : (first + i) % n ≠ (first + j) % n := by
  rw [mod_two (by omega), mod_two (by omega)]
  split <;> split <;> omega
theorem pl_shift {first n i : Nat} : ((first + 1) % n + i) % n = (first + (i + 1)) % n := by
  rw [Nat.mod_add_mod]; congr 1; omega
end Go.Proofs.YthemaacfjmcbnaaDoor
