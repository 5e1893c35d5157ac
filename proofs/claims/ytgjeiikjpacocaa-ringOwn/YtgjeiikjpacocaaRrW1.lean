/-
  Walks of the reference's ring: Push, Shift, At, Cut.
-/
import Derived.Test.YtgjeiikjpacocaaChecked
import Derived.Test.YtgjeiikjpacocaaSk
import Derived.Deep.LoopGhost
import Derived.Deep.RegionHeld3
import Derived.OwnWalk
namespace Go.Proofs.Ytgjeiikjpacocaa.Rr
open Go.RowKit
set_option linter.unusedVariables false

abbrev row (a : Option Addr) (n cap : Nat) (fr room : Int) : Value := .agg #[.slice a n cap, .int .i64 fr, .int .i64 room]
abbrev SkI (w : World) (X : Nat → Prop) (a : Option Addr) (n cap : Nat) (f : Nat → Int) : Prop := Sk w .i32 X a n cap f
theorem info32 : (Try.prog.info? 21).map (fun i => (i.zero, i.size, i.bytes)) = some (some (.int .i32 0), 1, 4) := by kernel_rfl
section
variable {w : World} {X : Nat → Prop} {a : Option Addr} {n cap : Nat} {f : Nat → Int}

set_option maxHeartbeats 1600000 in
theorem push_no (fr room : Int) (x : Int) (hr : room ≤ n) :
    Calls Try.prog 27 #[row a n cap fr room, .int .i32 x] w fun e w' => e = .returned (.tuple #[row a n cap fr room, .bool false]) ∧ Below w.heap.size w w' := by
  go_enter Try.func27, Try.ntmps27
  go_wp2
  exact bodyPost_ret (v := .tuple #[row a n cap fr room, .bool false]) (by simp [results, Try.results27, go_sem]) rfl ⟨rfl, ((Below.refl _ _).alloc (Nat.le_refl _) _).alloc (by simp) _⟩

/-- What a function of the reference that makes a row leaves. -/
structure Out (w : World) (X : Nat → Prop) (n : Nat) (f : Nat → Int) (a : Option Addr) (cap : Nat) (w' : World) : Prop where
  sk : SkI w' X a n cap f
  below : Below w.heap.size w w'

theorem cells_at {w : World} {b : Nat} {v0 v1 v2 : Value} {t : TypeId} (h : w.heap[b]? = some (.cells #[v0, v1, v2] t (0, 0))) : w.cell? ⟨b, 0, none⟩ = some v0 ∧ w.cell? ⟨b, 1, none⟩ = some v1 ∧ w.cell? ⟨b, 2, none⟩ = some v2 ∧ w.frozen? ⟨b, 0, none⟩ = false ∧ w.frozen? ⟨b, 1, none⟩ = false ∧ w.frozen? ⟨b, 2, none⟩ = false := by
  simp [World.cell?, World.frozen?, h]

/-- Two blocks laid one behind the other. -/
theorem two_new (w : World) (o1 o2 : Obj) : ((w.alloc o1).alloc o2).heap[w.heap.size]? = some o1 ∧ ((w.alloc o1).alloc o2).heap[w.heap.size + 1]? = some o2 ∧ ((w.alloc o1).alloc o2).heap.size = w.heap.size + 2 ∧ Below w.heap.size w ((w.alloc o1).alloc o2) := by
  refine ⟨?_, ?_, by simp, ((Below.refl _ _).alloc (Nat.le_refl _) _).alloc (by simp) _⟩
  · rw [Below.heap_alloc _ _ _ (by simp)]; exact heap_alloc_new w _
  · have := heap_alloc_new (w.alloc o1) o2
    simpa using this

theorem kept_block {w w' : World} {row : Option Nat} (hg : w.grownBy w' row) {b : Nat} {o : Obj} (h : w.heap[b]? = some o) (hne : some b ≠ row) : w'.heap[b]? = some o :=
  (hg.block b (Array.getElem?_eq_some_iff.1 h).1 hne).trans h
theorem alloc_block {w : World} {b : Nat} {o o' : Obj} (h : w.heap[b]? = some o) : (w.alloc o').heap[b]? = some o := (Below.heap_alloc w o' b (Array.getElem?_eq_some_iff.1 h).1).trans h

theorem own_slice {w : World} {base : Nat} {e : TypeId} {v : Value} {n : Nat} {xs : List Value} (h : w.ownsRow base e 1 v n xs) : ∃ a cap, v = .slice a n cap := by
  rcases h.2 with ⟨rfl, rfl⟩ | ⟨g, cap, cur, rfl, _⟩
  · exact ⟨_, _, rfl⟩
  · exact ⟨_, _, rfl⟩
/-- The row that is answered, in its own block: the world behind the three stores. -/
theorem Out.stored {w w4 : World} {X : Nat → Prop} {n : Nat} {f : Nat → Int} {a : Option Addr} {cap : Nat} {u0 u1 u2 : Value} (hX : ∀ k, X k → k < w.heap.size) (b : Below w.heap.size w w4) (ho : w4.ownsRow (w.heap.size + 2) 21 1 (.slice a n cap) n (kv .i32 f n)) :
    Out w X n f a cap (((w4.setCell ⟨w.heap.size + 1, 0, none⟩ u0).setCell ⟨w.heap.size + 1, 1, none⟩ u1).setCell ⟨w.heap.size + 1, 2, none⟩ u2) := by
  obtain ⟨a', cap', hv, hs⟩ := Sk.ofOwn (X := fun k => X k ∨ k = w.heap.size + 1) ho (fun k hk => by
    rcases hk with hk | hk
    · have := hX k hk; omega
    · omega)
  cases hv
  refine ⟨?_, ((b.setCell (by simp) _).setCell (by simp) _).setCell (by simp) _⟩
  have m : Mut (fun k => k = w.heap.size + 1) w4 (((w4.setCell ⟨w.heap.size + 1, 0, none⟩ u0).setCell ⟨w.heap.size + 1, 1, none⟩ u1).setCell ⟨w.heap.size + 1, 2, none⟩ u2) :=
    ((Mut.set w4 _ 0 u0 (S := fun k => k = w.heap.size + 1) rfl).trans (Mut.set _ _ 1 u1 (S := fun k => k = w.heap.size + 1) rfl) (fun _ _ e => e)).trans (Mut.set _ _ 2 u2 (S := fun k => k = w.heap.size + 1) rfl) (fun _ _ e => e)
  exact (hs.kept m (fun k e => .inr e)).weaken (fun k _ e => .inl e)

set_option maxHeartbeats 1600000 in
theorem push_yes (h : SkI w X a n cap f) (hX : ∀ k, X k → k < w.heap.size) (hn : n ≤ 1048576) (fr room : Int) (x : Int) (hr : n < room) :
    Calls Try.prog 27 #[row a n cap fr room, .int .i32 x] w fun e w' => ∃ a' cap', e = .returned (.tuple #[row a' (n + 1) cap' fr room, .bool true]) ∧ Out w X (n + 1) (sn f n x) a' cap' w' := by
  obtain ⟨i0, hi0, hz0, hz1, hz2⟩ := info_parts info32
  have HH := hid h
  have HX := hid hX
  clear h hX
  obtain ⟨hA, hB, hS, hL⟩ := two_new w (.cells #[.slice a n cap, .int .i64 fr, .int .i64 room] 29) (.cells #[.slice none 0 0, .int .i64 0, .int .i64 0] 29)
  have HA := hid hA
  have HB := hid hB
  have HL := hid hL
  have HL2 := hid (hL.alloc (by omega) (.cells #[] 21))
  have HS := hid hS
  clear hA hB hL hS
  go_enter Try.func27, Try.ntmps27
  go_wp2_with (at_builtin; refine wpList_append_src rfl _ _ 27 rfl (w.heap.size + 2) 21 i0 _ 1 4 Try.underlying27 hi0 hz0 hz1 hz2 rfl (by omega) (.slice (some ⟨w.heap.size + 1 + 1, 0, none⟩) 0 0) 0 [] rfl (own_empty (w.heap.size + 1 + 1) (by simp) (by simp)) a n cap (kv .i32 f n) rfl (HH.out.below HL2.out).src (by unfold maxLen; omega) (by omega) (by simp) ?_)
  intro v1 w1 ho1 hg1 ha1
  have B1 := hid (HL2.out.grown hg1 (by simp; omega) (fun k hk => by simp [Value.ownBlock] at hk; omega))
  have A1 := hid (kept_block hg1 (alloc_block (o' := .cells #[] 21) HA.out) (fun e => by simp [Value.ownBlock] at e <;> omega))
  have D1 := hid (kept_block hg1 (alloc_block (o' := .cells #[] 21) HB.out) (fun e => by simp [Value.ownBlock] at e <;> omega))
  have O1 := hid (show w1.ownsRow (w.heap.size + 2) 21 1 v1 n (kv .i32 f n) by simpa using ho1)
  have S1 := hid (show w.heap.size + 2 ≤ w1.heap.size by have := hg1.size; simp at this; omega)
  clear ho1 hg1 ha1 HA HB HL HL2 HS
  go_wp2_with (at_builtin; refine wpList_append_src rfl _ _ 27 rfl (w.heap.size + 2) 21 i0 _ 1 4 Try.underlying27 hi0 hz0 hz1 hz2 rfl (by omega) v1 n (kv .i32 f n) rfl (O1.out.alloc _) (some ⟨w1.heap.size, 0, none⟩) 1 1 #[.int .i32 x].toList rfl (Src.new (w := w1) #[.int .i32 x] 21 w1.heap.size rfl rfl (by simp [Value.oneCell'])) (by unfold maxLen; omega) (by omega) (by have := S1.out; simp; omega) ?_)
  intro v2 w2 ho2 hg2 ha2
  have hO := O1.out.lt
  have B2 := hid ((B1.out.alloc B1.out.size (.cells #[.int .i32 x] 21)).grown hg2 (by have := B1.out.size; simp; omega) (fun k hk => by have := (hO k hk).1; omega))
  have A2 := hid (kept_block hg2 (alloc_block (o' := .cells #[.int .i32 x] 21) A1.out) (fun e => by have := (hO _ e.symm).1; omega))
  have D2 := hid (kept_block hg2 (alloc_block (o' := .cells #[.int .i32 x] 21) D1.out) (fun e => by have := (hO _ e.symm).1; omega))
  rw [show kv .i32 f n ++ #[Value.int .i32 x].toList = kv .i32 (sn f n x) (n + 1) from kv_sn .i32 f n x] at ho2
  have O2 := hid ho2
  clear ho2 hg2 ha2 hO A1 B1 D1 O1 S1
  obtain ⟨p0, p1, p2, _, _, _⟩ := cells_at A2.out
  obtain ⟨q0, q1, q2, f0, f1, f2⟩ := cells_at D2.out
  obtain ⟨a', cap', rfl⟩ := own_slice O2.out
  have out := hid (Out.stored (u0 := .slice a' (n + 1) cap') (u1 := .int .i64 fr) (u2 := .int .i64 room) HX.out B2.out O2.out)
  go_wp2
  exact bodyPost_ret (v := .tuple #[row a' (n + 1) cap' fr room, .bool true]) (by simp [results, Try.results27, go_sem, q0, q1, q2]) rfl ⟨a', cap', rfl, out.out⟩
end
end Go.Proofs.Ytgjeiikjpacocaa.Rr
