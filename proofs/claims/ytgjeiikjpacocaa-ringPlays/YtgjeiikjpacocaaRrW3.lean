/-
  Walks of the reference's ring: Shift.
-/
import Derived.Test.YtgjeiikjpacocaaRrW1
namespace Go.Proofs.Ytgjeiikjpacocaa.Rr
open Go.RowKit
set_option linter.unusedVariables false
section
variable {w : World} {X : Nat → Prop} {a : Option Addr} {n cap : Nat} {f : Nat → Int}

set_option maxHeartbeats 1600000 in
theorem shift_no (fr room : Int) :
    Calls Try.prog 30 #[row a 0 cap fr room] w fun e w' => e = .returned (.tuple #[row a 0 cap fr room, .int .i32 0, .bool false]) ∧ Below w.heap.size w w' := by
  go_enter Try.func30, Try.ntmps30
  go_wp2
  exact bodyPost_ret (v := .tuple #[row a 0 cap fr room, .int .i32 0, .bool false]) (by simp [results, Try.results30, go_sem]) rfl ⟨rfl, ((Below.refl _ _).alloc (Nat.le_refl _) _).alloc (by simp) _⟩

theorem three_cell (w1 : World) {b k j : Nat} {u0 u1 u2 : Value} (h : k ≠ b) : (((w1.setCell ⟨b, 0, none⟩ u0).setCell ⟨b, 1, none⟩ u1).setCell ⟨b, 2, none⟩ u2).drew.cell? ⟨k, j, none⟩ = w1.cell? ⟨k, j, none⟩ :=
  World.cell?_of_block (show (((w1.setCell ⟨b, 0, none⟩ u0).setCell ⟨b, 1, none⟩ u1).setCell ⟨b, 2, none⟩ u2).heap[k]? = w1.heap[k]? by rw [set_row_other _ _ h, set_row_other _ _ h, set_row_other _ _ h])
theorem Out.drew {w w' : World} {X : Nat → Prop} {n : Nat} {f : Nat → Int} {a : Option Addr} {cap : Nat} (h : Out w X n f a cap w') : Out w X n f a cap w'.drew := ⟨h.sk.below (Below.refl _ _).drew, h.below.drew⟩

set_option maxHeartbeats 3200000 in
theorem shift_a (h : SkI w X a n cap f) (h1 : ¬ cap = 1) (hX : ∀ k, X k → k < w.heap.size) (hn : n ≤ 1048576) (c : Nat) (hc : n = c + 1) (fr : Nat) (hfr : fr ≤ 1099511627776) (room : Int) :
    Calls Try.prog 30 #[row a n cap fr room] w fun e w' => ∃ a' cap', e = .returned (.tuple #[row a' c cap' (fr + 1 : Nat) room, .int .i32 (f 0), .bool true]) ∧ Out w X c (fun i => f (i + 1)) a' cap' w' := by
  obtain ⟨i0, hi0, hz0, hz1, hz2⟩ := info_parts info32
  have hle := h.le
  have hmx := h.mx
  unfold maxLen at hmx
  obtain ⟨b, off, rfl, hbl, _, hcell⟩ := h.at' (by omega)
  have HH := hid h
  have HX := hid hX
  have c0 := hcell 0 (by omega)
  rw [Nat.add_zero] at c0
  clear h hX hcell
  obtain ⟨hA, hB, hS, hL⟩ := two_new w (.cells #[.slice (some ⟨b, off, none⟩) n cap, .int .i64 fr, .int .i64 room] 29) (.cells #[.slice none 0 0, .int .i64 0, .int .i64 0] 29)
  have HA := hid (alloc_block (o' := .cells #[] 21) hA)
  have HB := hid (alloc_block (o' := .cells #[] 21) hB)
  have HL2 := hid (hL.alloc (by omega) (.cells #[] 21))
  have C0 := hid c0
  clear hA hB hL hS c0
  obtain ⟨z, hz⟩ : ∃ z : Int, z = (fr + 1 : Nat) := ⟨_, rfl⟩
  have e1 : IntKind.i64.wrap ((fr : Int) + 1) = z := by rw [i64_in (by omega) (by omega)]; omega
  have HZ := hid hz
  have t0 : ((n : Int) == 0) = false := by simp; omega
  have l1 : (1 : Int) ≤ n := by omega
  have l2 : (1 : Int) ≤ cap := by omega
  have l3 : (n : Int) ≤ cap := by omega
  have HC := hid hc
  have hc' := hid (show n - 1 = c by omega)
  have HBL := hid hbl
  clear hz hc hbl
  go_enter Try.func30, Try.ntmps30
  have SRC := hid (show Src (((w.alloc (.cells #[.slice (some ⟨b, off, none⟩) n cap, .int .i64 fr, .int .i64 room] 29)).alloc (.cells #[.slice none 0 0, .int .i64 0, .int .i64 0] 29)).alloc (.cells #[] 21)) (some ⟨b, off + 1, none⟩) (n - 1) (cap - 1) 1 (kv .i32 (fun i => f (i + 1)) (n - 1)) from
    ⟨by rw [kv_length, Nat.mul_one], kv_one _ _ _, fun e => (by cases e), fun ad ha j u hu => by
        have hj := (kv_inv hu).1
        obtain ⟨b', off', hbo, sk⟩ := (HH.out.below HL2.out).tail (by omega)
        cases hbo
        exact sk.src.cells ad ha j u hu⟩)
  go_wp2_with (at_builtin; go_must (refine wpList_append_src rfl _ _ 27 rfl (w.heap.size + 2) 21 i0 _ 1 4 Try.underlying27 hi0 hz0 hz1 hz2 rfl (by omega) (.slice (some ⟨w.heap.size + 1 + 1, 0, none⟩) 0 0) 0 [] rfl (own_empty (w.heap.size + 1 + 1) (by simp) (by simp)) (some ⟨b, off + 1, none⟩) (n - 1) (cap - 1) (kv .i32 (fun i => f (i + 1)) (n - 1)) rfl SRC.out (by unfold maxLen; omega) (by omega) (by simp) ?_))
  intro v1 w1 ho1 hg1 ha1
  have B1 := hid (HL2.out.grown hg1 (by simp; omega) (fun k hk => by simp [Value.ownBlock] at hk; omega))
  have A1 := hid (kept_block hg1 HA.out (fun e => by simp [Value.ownBlock] at e <;> omega))
  have D1 := hid (kept_block hg1 HB.out (fun e => by simp [Value.ownBlock] at e <;> omega))
  have O1 := hid (show w1.ownsRow (w.heap.size + 2) 21 1 v1 c (kv .i32 (fun i => f (i + 1)) c) by have := hc'.out; rw [← this]; simpa using ho1)
  clear ho1 hg1 ha1 HA HB HL2 SRC h1
  obtain ⟨p0, p1, p2, _, _, _⟩ := cells_at A1.out
  obtain ⟨q0, q1, q2, f0, f1, f2⟩ := cells_at D1.out
  have c0 : w1.cell? ⟨b, off, none⟩ = some (.int .i32 (f 0)) := by rw [B1.out.cell (p := ⟨b, off, none⟩) HBL.out]; exact C0.out
  obtain ⟨a', cap', rfl⟩ := own_slice O1.out
  have out := hid (Out.stored (u0 := .slice a' c cap') (u1 := .int .i64 z) (u2 := .int .i64 room) HX.out B1.out O1.out).drew
  have hne : w.heap.size ≠ w.heap.size + 1 := by omega
  have hbne : b ≠ w.heap.size + 1 := by have := HBL.out; omega
  have hn0 : (0 : Int) < n := by omega
  have hn1 : 0 < n := by omega
  go_wp2_with fail
  go_region_held3 (fun w' => w'.cell? ⟨w.heap.size, 0, none⟩ = some (.slice (some ⟨b, off, none⟩) n cap) ∧ w'.cell? ⟨w.heap.size, 1, none⟩ = some (.int .i64 fr) ∧ w'.cell? ⟨w.heap.size, 2, none⟩ = some (.int .i64 room) ∧ w'.cell? ⟨b, off, none⟩ = some (.int .i32 (f 0))) (first | exact ⟨(three_cell _ hne).trans p0, (three_cell _ hne).trans p1, (three_cell _ hne).trans p2, (three_cell _ hbne).trans c0⟩ | go_keep) (fail)
  go_wp2_with fail
  exact bodyPost_ret (v := .tuple #[row a' c cap' z room, .int .i32 (f 0), .bool true]) (by simp [results, Try.results30, go_sem, q0, q1, q2]) rfl ⟨a', cap', by rw [HZ.out], out.out⟩

set_option maxHeartbeats 3200000 in
theorem shift_b (h : SkI w X a 1 1 f) (hX : ∀ k, X k → k < w.heap.size) (fr : Nat) (hfr : fr ≤ 1099511627776) (room : Int) :
    Calls Try.prog 30 #[row a 1 1 fr room] w fun e w' => ∃ a' cap', e = .returned (.tuple #[row a' 0 cap' (fr + 1 : Nat) room, .int .i32 (f 0), .bool true]) ∧ Out w X 0 (fun i => f (i + 1)) a' cap' w' := by
  obtain ⟨i0, hi0, hz0, hz1, hz2⟩ := info_parts info32
  obtain ⟨b, off, rfl, hbl, _, hcell⟩ := h.at' (by omega)
  have HH := hid h
  have HX := hid hX
  have c0 := hcell 0 (by omega)
  rw [Nat.add_zero] at c0
  clear h hX hcell
  obtain ⟨hA, hB, hS, hL⟩ := two_new w (.cells #[.slice (some ⟨b, off, none⟩) 1 1, .int .i64 fr, .int .i64 room] 29) (.cells #[.slice none 0 0, .int .i64 0, .int .i64 0] 29)
  have HA := hid (alloc_block (o' := .cells #[] 21) hA)
  have HB := hid (alloc_block (o' := .cells #[] 21) hB)
  have HL2 := hid (hL.alloc (by omega) (.cells #[] 21))
  have C0 := hid c0
  clear hA hB hL hS c0
  obtain ⟨z, hz⟩ : ∃ z : Int, z = (fr + 1 : Nat) := ⟨_, rfl⟩
  have e1 : IntKind.i64.wrap ((fr : Int) + 1) = z := by rw [i64_in (by omega) (by omega)]; omega
  have HZ := hid hz
  have HBL := hid hbl
  clear hz hbl
  go_enter Try.func30, Try.ntmps30
  have SRC := hid (show Src (((w.alloc (.cells #[.slice (some ⟨b, off, none⟩) 1 1, .int .i64 fr, .int .i64 room] 29)).alloc (.cells #[.slice none 0 0, .int .i64 0, .int .i64 0] 29)).alloc (.cells #[] 21)) (some ⟨b, off, none⟩) 0 0 1 (kv .i32 (fun i => f (i + 1)) 0) from
    ⟨by rw [kv_length, Nat.mul_one], kv_one _ _ _, fun e => (by cases e), fun ad ha j u hu => by have := (kv_inv hu).1; omega⟩)
  go_wp2_with (at_builtin; go_must (refine wpList_append_src rfl _ _ 27 rfl (w.heap.size + 2) 21 i0 _ 1 4 Try.underlying27 hi0 hz0 hz1 hz2 rfl (by omega) (.slice (some ⟨w.heap.size + 1 + 1, 0, none⟩) 0 0) 0 [] rfl (own_empty (w.heap.size + 1 + 1) (by simp) (by simp)) (some ⟨b, off, none⟩) 0 0 (kv .i32 (fun i => f (i + 1)) 0) rfl SRC.out (by unfold maxLen; omega) (by omega) (by simp) ?_))
  intro v1 w1 ho1 hg1 ha1
  have B1 := hid (HL2.out.grown hg1 (by simp; omega) (fun k hk => by simp [Value.ownBlock] at hk; omega))
  have A1 := hid (kept_block hg1 HA.out (fun e => by simp [Value.ownBlock] at e <;> omega))
  have D1 := hid (kept_block hg1 HB.out (fun e => by simp [Value.ownBlock] at e <;> omega))
  have O1 := hid (show w1.ownsRow (w.heap.size + 2) 21 1 v1 0 (kv .i32 (fun i => f (i + 1)) 0) by simpa using ho1)
  clear ho1 hg1 ha1 HA HB HL2 SRC
  obtain ⟨p0, p1, p2, _, _, _⟩ := cells_at A1.out
  obtain ⟨q0, q1, q2, f0, f1, f2⟩ := cells_at D1.out
  have c0 : w1.cell? ⟨b, off, none⟩ = some (.int .i32 (f 0)) := by rw [B1.out.cell (p := ⟨b, off, none⟩) HBL.out]; exact C0.out
  obtain ⟨a', cap', rfl⟩ := own_slice O1.out
  have out := hid (Out.stored (u0 := .slice a' 0 cap') (u1 := .int .i64 z) (u2 := .int .i64 room) HX.out B1.out O1.out).drew
  have hne : w.heap.size ≠ w.heap.size + 1 := by omega
  have hbne : b ≠ w.heap.size + 1 := by have := HBL.out; omega
  go_wp2_with fail
  go_region_held3 (fun w' => w'.cell? ⟨w.heap.size, 0, none⟩ = some (.slice (some ⟨b, off, none⟩) 1 1) ∧ w'.cell? ⟨w.heap.size, 1, none⟩ = some (.int .i64 fr) ∧ w'.cell? ⟨w.heap.size, 2, none⟩ = some (.int .i64 room) ∧ w'.cell? ⟨b, off, none⟩ = some (.int .i32 (f 0))) (first | exact ⟨(three_cell _ hne).trans p0, (three_cell _ hne).trans p1, (three_cell _ hne).trans p2, (three_cell _ hbne).trans c0⟩ | go_keep) (fail)
  go_wp2_with fail
  exact bodyPost_ret (v := .tuple #[row a' 0 cap' z room, .int .i32 (f 0), .bool true]) (by simp [results, Try.results30, go_sem, q0, q1, q2]) rfl ⟨a', cap', by rw [HZ.out], out.out⟩

theorem shift_yes (h : SkI w X a n cap f) (hX : ∀ k, X k → k < w.heap.size) (hn : n ≤ 1048576) (c : Nat) (hc : n = c + 1) (fr : Nat) (hfr : fr ≤ 1099511627776) (room : Int) :
    Calls Try.prog 30 #[row a n cap fr room] w fun e w' => ∃ a' cap', e = .returned (.tuple #[row a' c cap' (fr + 1 : Nat) room, .int .i32 (f 0), .bool true]) ∧ Out w X c (fun i => f (i + 1)) a' cap' w' := by
  by_cases h1 : cap = 1
  · obtain rfl : n = 1 := by have := h.le; omega
    obtain rfl : c = 0 := by omega
    subst h1
    exact shift_b h hX fr hfr room
  · exact shift_a h h1 hX hn c hc fr hfr room
end
end Go.Proofs.Ytgjeiikjpacocaa.Rr
