/-
  Walks of ring: grow (things of one kind).
-/
import Derived.Test.YtgjeiikjpacocaaRgB4
namespace Go.Proofs.Ytgjeiikjpacocaa.RB
open Go.RowKit
set_option linter.unusedVariables false
section
variable {w : World} {B : Nat} {o : Option Nat} {D room fr cnt n first : Nat} {g f : Nat → Int}

/-- All of a ring, whether it is empty or not. -/
structure AllRow (w : World) (cnt : Nat) (f : Nat → Int) (a : Option Addr) (w' : World) : Prop where
  nil : cnt = 0 → a = none
  at' : 0 < cnt → a = some ⟨w.heap.size, 0, none⟩ ∧ w'.heap[w.heap.size]? = some (.cells (kv .u8 f cnt).toArray 5 (0, 0))
  below : Below w.heap.size w w'
theorem all_b (h : RbB w B o room fr cnt n first g) (hv : ∀ i, i < cnt → g ((first + i) % n) = f i) :
    Calls Try.prog 21 #[ptr B] w fun e w' => ∃ a, e = .returned (.slice a cnt cnt) ∧ AllRow w cnt f a w' := by
  by_cases h0 : 0 < cnt
  · obtain ⟨D, rfl⟩ := h.pos (by have := h.le; omega)
    refine (all_yes h h0 hv).mono ?_
    rintro e w' ⟨rfl, r⟩
    exact ⟨_, rfl, fun e => by omega, fun _ => ⟨rfl, r.row⟩, r.below⟩
  · obtain rfl : cnt = 0 := by omega
    refine (all_no h).mono ?_
    rintro e w' ⟨rfl, rfl⟩
    exact ⟨_, rfl, fun _ => rfl, fun e => by omega, Below.refl _ _⟩

set_option maxHeartbeats 1600000 in
theorem grow_b (h : RbB w B o room fr n n first g) (hv : ∀ i, i < n → g ((first + i) % n) = f i) (hr : n < room) :
    Calls Try.prog 34 #[ptr B] w fun e w' => e = .returned (.tuple #[]) ∧ ∃ D n' g', RbB w' B (some D) room fr n n' 0 g' ∧ (∀ i, i < n → g' i = f i) ∧ n < n' ∧ w.heap.size ≤ D ∧ Mut (own B none) w w' := by
  obtain ⟨i0, hi0, hz0, hz1, hz2⟩ := info_parts infoI
  have hszE : (Try.prog.info? 5).map (·.size) = some 1 := by rw [hi0]; simp [hz1]
  obtain ⟨n', hn'⟩ : ∃ n' : Nat, n' = min (2 * n + 1) room := ⟨_, rfl⟩
  have hmx := h.mx
  have e1 : IntKind.i64.wrap (2 * (n : Int)) = 2 * n := i64_in (by omega) (by omega)
  have e2 : IntKind.i64.wrap (2 * (n : Int) + 1) = 2 * n + 1 := i64_in (by omega) (by omega)
  have e3 : (if (room : Int) < 2 * (n : Int) + 1 then (room : Int) else 2 * (n : Int) + 1) = n' := by split <;> omega
  have hn1 : n < n' := by omega
  have hn2 : n' ≤ room := by omega
  have hmk := fun w => run_make_kv (P := Try.prog) w .u8 40 5 i0 Try.underlying40 hi0 hz0 hz1 (by omega) n' (by omega)
  have c0 := h.c0
  have c3 := h.c3
  have HH := hid h
  have HV := hid hv
  have HN := hid hn'
  have hlt := h.lt
  clear h hv hn'
  go_enter Try.func34, Try.ntmps34
  go_wp2_with fail
  go_region_held3 (fun w' => w'.cell? ⟨B, 0, none⟩ = some (.int .i64 room) ∧ w'.cell? ⟨B, 3, none⟩ = some (.slice (o.map fun D => ⟨D, 0, none⟩) n n)) (go_keep) (fail)
  have hm1 := hid (show Made w .u8 5 n' (w.alloc (.cells (kv .u8 (fun _ => 0) n').toArray 5)).drew from ⟨heap_alloc_new w _, ((Below.refl _ _).alloc (Nat.le_refl _) _).drew⟩)
  generalize (w.alloc (.cells (kv .u8 (fun _ => 0) n').toArray 5)).drew = w1 at *
  have R1 := hid (HH.out.below hm1.out.below)
  have B1 := hid hm1.out.below
  have G1 := hid hm1.out.row
  clear hm1 c0 c3 e1 e2 e3 hmk
  go_wp2_with fail
  refine (all_b R1.out HV.out).mono ?_
  rintro e w2 ⟨a, rfl, ha⟩
  have R2 := hid (R1.out.below ha.below)
  have B2 := hid (B1.out.trans (ha.below.mono B1.out.size))
  have G2 := hid (show w2.heap[w.heap.size]? = some (.cells (kv .u8 (fun _ => 0) n').toArray 5 (0, 0)) from (ha.below.block _ (Array.getElem?_eq_some_iff.1 G1.out).1).trans G1.out)
  have HA := hid ha
  clear ha R1 B1 G1
  go_wp2_with (refine wpList_copy_kv rfl _ _ 40 40 rfl .u8 5 Try.underlying40 hszE w.heap.size 0 n' n' n' (some ⟨w.heap.size, 0, none⟩) w1.heap.size 0 n n n a rfl rfl (fun _ => 0) f G2.out n (fun h0 => (HA.out.at' h0).2) (show n = min n n' by omega) (fun _ => rfl) (fun h0 => (HA.out.at' h0).1) (by omega) (fun _ => by omega) w.heap.size w B2.out (Nat.le_refl _) ?_)
  intro w3 hg3 hb3
  have R3 := hid (HH.out.below hb3)
  have G3 := hid hg3.out
  have B3 := hid hb3
  clear hg3 hb3 R2 B2 G2 HA
  have f3 := R3.out.fz 3
  have f4 := R3.out.fz 4
  have c3 := R3.out.c3
  have c4 := R3.out.c4
  go_wp2
  go_end0
  refine ⟨rfl, w.heap.size, n', _, R3.out.setRow w.heap.size n' _ (by omega) G3.out (by omega) hn2 (by omega), fun i hi => ?_, hn1, Nat.le_refl _, ?_⟩
  · unfold ovk
    rw [if_pos (by omega)]
    show f (i - 0) = f i
    rw [Nat.sub_zero]
  · exact ((Mut.ofBelow B3.out (own B none)).trans (Mut.set _ B 3 _ (S := own B none) (.inl rfl)) (fun _ _ e => e)).trans (Mut.set _ B 4 _ (S := own B none) (.inl rfl)) (fun _ _ e => e)
end
end Go.Proofs.Ytgjeiikjpacocaa.RB
