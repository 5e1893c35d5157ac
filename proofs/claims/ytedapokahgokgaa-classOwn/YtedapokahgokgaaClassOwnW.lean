/-
  The walk of the law ClassOwn.
-/
import Derived.Test.YtedapokahgokgaaClS
import Derived.Test.YtedapokahgokgaaClR1
import Derived.Deep.RegionHeld3
namespace Go.Proofs.Ytedapokahgokgaa
open Go.RowKit
set_option linter.unusedVariables false

theorem uOwn (w : World) (t : TypeId) (base : Nat) (h : base ≤ w.heap.size) : (w.alloc (.cells uCells t)).ownsRow base t 3 (.slice (some ⟨w.heap.size, 0, none⟩) 51 51) 51 uCells.toList :=
  World.ownsRow_lit w uCells 51 h (by decide) (by kernel_rfl)

/-- Three stores into block B, as one step. -/
def set3 (w : World) (B i : Nat) (x y z : Value) : World := ((w.setCell ⟨B, i, none⟩ x).setCell ⟨B, i + 1, none⟩ y).setCell ⟨B, i + 2, none⟩ z
theorem set3_block (w : World) (B i : Nat) (x y z : Value) (k : Nat) (h : k ≠ B) : (set3 w B i x y z).heap[k]? = w.heap[k]? := by
  unfold set3
  rw [Below.heap_setCell _ _ _ _ h, Below.heap_setCell _ _ _ _ h, Below.heap_setCell _ _ _ _ h]
theorem set3_cell {w : World} {B i : Nat} {x y z : Value} {a : Addr} (h : a.block ≠ B) : (set3 w B i x y z).cell? a = w.cell? a := World.cell?_of_block (set3_block w B i x y z a.block h)
theorem set3_below {B0 : Nat} {w0 w : World} (hb : Below B0 w0 w) (B i : Nat) (x y z : Value) (h : B0 ≤ B) : Below B0 w0 (set3 w B i x y z) := ((hb.setCell (p := ⟨B, i, none⟩) h x).setCell (p := ⟨B, i + 1, none⟩) h y).setCell (p := ⟨B, i + 2, none⟩) h z
theorem set3_own {w : World} {base : Nat} {e : TypeId} {g n cap i : Nat} {xs : List Value} {x y z : Value} (h : w.ownsRow base e 3 (.slice (some ⟨g, 0, none⟩) n cap) n xs) : ∃ ys, (set3 w g i x y z).ownsRow base e 3 (.slice (some ⟨g, 0, none⟩) n cap) n ys :=
  ⟨_, (((h.stored i x).1.stored (i + 1) y).1.stored (i + 2) z).1⟩

set_option maxRecDepth 100000 in
set_option maxHeartbeats 4000000 in
theorem classOwn_calls (p : Int) (at' : Nat) (hat : at' ≤ 65535) (x y z : Int) (w : World) :
    Calls Try.prog 6 #[.int .i64 p, .int .u16 at', .agg #[.int .i64 x, .int .i64 y, .int .i64 z]] w fun e w' => e = .returned (.bool true) ∧ Below w.heap.size w w' := by
  obtain ⟨i0, hi0, hz0, hz1, hz2⟩ := info_parts Try.infoR
  have B0 := hid ((Below.refl w.heap.size w).alloc (Nat.le_refl _) (.cells #[.int .i64 x, .int .i64 y, .int .i64 z] 31))
  go_enter Try.func6, Try.ntmps6
  go_wp2_with fail
  have q0 : (w.alloc (.cells #[.int .i64 x, .int .i64 y, .int .i64 z] 31)).cell? ⟨w.heap.size, 0, none⟩ = some (.int .i64 x) := by simp
  have q1 : (w.alloc (.cells #[.int .i64 x, .int .i64 y, .int .i64 z] 31)).cell? ⟨w.heap.size, 1, none⟩ = some (.int .i64 y) := by simp
  have q2 : (w.alloc (.cells #[.int .i64 x, .int .i64 y, .int .i64 z] 31)).cell? ⟨w.heap.size, 2, none⟩ = some (.int .i64 z) := by simp
  have hs0 : (w.alloc (.cells #[.int .i64 x, .int .i64 y, .int .i64 z] 31)).heap.size = w.heap.size + 1 := by simp
  generalize w.alloc (.cells #[.int .i64 x, .int .i64 y, .int .i64 z] 31) = w0 at *
  refine (usual_calls _).mono ?_
  rintro e w1 ⟨rfl, rfl⟩
  have O1 := hid (uOwn w0 31 (w.heap.size + 1) (by omega))
  have R1 := hid (uRs w0 31 w0.heap.size rfl)
  have b1 := (Below.refl w0.heap.size w0).alloc (Nat.le_refl _) (.cells uCells 31)
  have B1 := hid (B0.out.trans (b1.mono B0.out.size))
  have B1' := hid b1
  clear b1
  have hs1 : (w0.alloc (.cells uCells 31)).heap.size = w0.heap.size + 1 := by simp
  generalize w0.alloc (.cells uCells 31) = w1 at *
  have HS0 := hid hs0
  have HS1 := hid hs1
  clear hs0 hs1
  go_wp2_with fail
  refine (of_calls _ _ _ _ _ _ p _ R1.out).mono ?_
  rintro e w2 ⟨rfl, b2⟩
  have B2 := hid (B1.out.trans (b2.mono B1.out.size))
  have O2 := hid (own_below O1.out b2)
  have b02 := B1'.out.trans (b2.mono B1'.out.size)
  have hw : w.heap.size < w0.heap.size := by have := HS0.out; omega
  rw [← b02.cell (p := ⟨w.heap.size, 0, none⟩) hw] at q0
  rw [← b02.cell (p := ⟨w.heap.size, 1, none⟩) hw] at q1
  rw [← b02.cell (p := ⟨w.heap.size, 2, none⟩) hw] at q2
  clear b02 b2 B1' O1
  have Q := hid (show w2.cell? ⟨w.heap.size, 0, none⟩ = some (.int .i64 x) ∧ w2.cell? ⟨w.heap.size, 1, none⟩ = some (.int .i64 y) ∧ w2.cell? ⟨w.heap.size, 2, none⟩ = some (.int .i64 z) from ⟨q0, q1, q2⟩)
  obtain ⟨k, hk, hk51⟩ : ∃ k : Nat, (at' : Int) % 51 = k ∧ k < 51 := ⟨at' % 51, by omega, by omega⟩
  have hk0 : (0 : Int) ≤ k := by omega
  have hk1 : (k : Int) < 51 := by omega
  have hu16 : IntKind.i64.wrap (at' : Int) = at' := i64_in (by omega) (by omega)
  have htm : (at' : Int).tmod 51 = k := by rw [Int.tmod_eq_emod_of_nonneg (by omega)]; exact hk
  have hw51 : IntKind.i64.wrap (k : Int) = k := i64_in (by omega) (by omega)
  have lenU : uCells.toList.length = 153 := by kernel_rfl
  have cel : ∀ j, j < 153 → ∃ v, w2.cell? ⟨w0.heap.size, j, none⟩ = some v := fun j hj => by
    rw [O2.out.cellAt j (by omega)]
    exact ⟨_, List.getElem?_eq_getElem (by omega)⟩
  obtain ⟨o0, c0⟩ := cel (k * 3) (by omega)
  obtain ⟨o1, c1⟩ := cel (k * 3 + 1) (by omega)
  obtain ⟨o2, c2⟩ := cel (k * 3 + 2) (by omega)
  have f0 := O2.out.frozenAt (k * 3)
  have f1 := O2.out.frozenAt (k * 3 + 1)
  have f2 := O2.out.frozenAt (k * 3 + 2)
  have hne : w.heap.size ≠ w0.heap.size := by omega
  have LU := hid lenU
  clear cel lenU
  have K := hid (show (set3 w2 w0.heap.size (k * 3) (.int .i64 x) (.int .i64 y) (.int .i64 z)).drew.cell? ⟨w.heap.size, 0, none⟩ = some (.int .i64 x) ∧ (set3 w2 w0.heap.size (k * 3) (.int .i64 x) (.int .i64 y) (.int .i64 z)).drew.cell? ⟨w.heap.size, 1, none⟩ = some (.int .i64 y) ∧ (set3 w2 w0.heap.size (k * 3) (.int .i64 x) (.int .i64 y) (.int .i64 z)).drew.cell? ⟨w.heap.size, 2, none⟩ = some (.int .i64 z) from
    ⟨(set3_cell (w := w2) (a := ⟨w.heap.size, 0, none⟩) hne).trans q0, (set3_cell (w := w2) (a := ⟨w.heap.size, 1, none⟩) hne).trans q1, (set3_cell (w := w2) (a := ⟨w.heap.size, 2, none⟩) hne).trans q2⟩)
  go_wp2_with fail
  go_region_held3 (fun w' => w'.cell? ⟨w.heap.size, 0, none⟩ = some (.int .i64 x) ∧ w'.cell? ⟨w.heap.size, 1, none⟩ = some (.int .i64 y) ∧ w'.cell? ⟨w.heap.size, 2, none⟩ = some (.int .i64 z))
    (first | exact K.out | go_keep)
    (fail)
  obtain ⟨ys, oys⟩ := set3_own (i := k * 3) (x := .int .i64 x) (y := .int .i64 y) (z := .int .i64 z) O2.out
  have O3 := hid oys.drew
  have B3 := hid ((set3_below B2.out w0.heap.size (k * 3) (.int .i64 x) (.int .i64 y) (.int .i64 z) (by omega)).drew)
  show Exit.then _ _ Exit.normal _ (set3 w2 w0.heap.size (k * 3) (.int .i64 x) (.int .i64 y) (.int .i64 z)).drew
  clear oys O2 B2 q0 q1 q2 c0 c1 c2 f0 f1 f2 Q
  generalize (set3 w2 w0.heap.size (k * 3) (.int .i64 x) (.int .i64 y) (.int .i64 z)).drew = w3 at *
  obtain ⟨q0, q1, q2⟩ := K.out
  have sz3 : w.heap.size + 1 ≤ w3.heap.size := by have := World.block_lt_of_cell? _ _ q0; simp at this; omega
  go_wp2_with (at_builtin; refine wpList_append_src rfl _ _ 22 rfl (w.heap.size + 1) 31 i0 _ 3 24 Try.underlying22 hi0 hz0 hz1 hz2 rfl (by omega) (.slice (some ⟨w0.heap.size, 0, none⟩) 51 51) 51 ys rfl (O3.out.alloc _) (some ⟨w3.heap.size, 0, none⟩) 1 1 #[.int .i64 x, .int .i64 y, .int .i64 z].toList rfl (Src.new (w := w3) #[.int .i64 x, .int .i64 y, .int .i64 z] 31 w3.heap.size rfl rfl (by simp [Value.oneCell'])) (by unfold maxLen; omega) (by omega) (by simp; omega) ?_)
  intro v4 w4 ho4 hg4 ha4
  have B4 := hid ((B3.out.alloc B3.out.size _).grown hg4 (by have := B3.out.size; simp; omega) (fun j hj => by simp [Value.ownBlock] at hj; omega))
  clear ho4 hg4 ha4 B3 K q0 q1 q2
  go_wp2_with fail
  refine (fixed02_calls _).mono ?_
  rintro e w5 ⟨rfl, b5⟩
  have B5 := hid (B4.out.trans (b5.mono B4.out.size))
  clear b5
  go_wp2_with fail
  refine (usual_calls _).mono ?_
  rintro e w6 ⟨rfl, rfl⟩
  have R6 := hid (uRs w5 31 w5.heap.size rfl)
  have B6 := hid (B5.out.alloc B5.out.size (.cells uCells 31))
  generalize w5.alloc (.cells uCells 31) = w6 at *
  go_wp2_with fail
  refine (of_calls _ _ _ _ _ _ p _ R6.out).mono ?_
  rintro e w7 ⟨rfl, b7⟩
  have B7 := hid (B6.out.trans (b7.mono B6.out.size))
  clear b7
  go_wp2_with fail
  refine (rusual_calls _).mono ?_
  rintro e w8 ⟨v8, rfl, o8, b8⟩
  obtain ⟨a8, c8, rfl, r8⟩ := Rs.own o8 rfl
  have R8 := hid r8
  have B8 := hid (B7.out.trans (b8.mono B7.out.size))
  clear b8 o8 r8
  go_wp2_with fail
  refine (rof_calls _ _ _ _ _ _ p _ R8.out).mono ?_
  rintro e w8 ⟨rfl, rfl⟩
  rw [usual_cls]
  go_wp2_with fail
  go_ret
  exact ⟨rfl, B8.out⟩
theorem classOwn_of (p a : Int) (hwf : (Lit.int .u16 a).wf = true) (x y z : Int) (w : World) :
    Calls Try.prog 6 #[.int .i64 p, .int .u16 a, .agg #[.int .i64 x, .int .i64 y, .int .i64 z]] w fun e w' => e = .returned (.bool true) ∧ Below w.heap.size w w' := by
  have h : 0 ≤ a ∧ a ≤ 65535 := by
    simp [Lit.wf, IntKind.min, IntKind.max, IntKind.signed, IntKind.bits] at hwf
    simpa using hwf
  obtain ⟨k, rfl⟩ : ∃ k : Nat, a = k := ⟨a.toNat, by omega⟩
  exact classOwn_calls p k (by omega) x y z w
end Go.Proofs.Ytedapokahgokgaa
