/-
  Stage 13's law: fixed.
-/
import Derived.Test.YtiheagkgpbkkfaaDoorSpPc
import Derived.Test.YtiheagkgpbkkfaaDoorLotC
namespace Go.Proofs.YtiheagkgpbkkfaaDoor
open Go.RowKit
set_option linter.unusedVariables false
/-- Pieces laid just now. -/
theorem Pc.lit {w : World} {t : TypeId} {cs : Array Value} {xs : List (Nat × Bool)} {n : Nat} (h : cs = (pcv xs).toArray) (hn : xs.length = n) (hm : n ≤ maxLen) : Pc (w.alloc (.cells cs t)) (some ⟨w.heap.size, 0, none⟩) n n xs := by
  subst h
  refine ⟨hn, Nat.le_refl _, hm, fun e => absurd e (by simp), fun h0 => ⟨w.heap.size, 0, rfl, by simp, fun i hi => ?_⟩⟩
  have q := pcv_get xs i (by omega)
  have hb := heap_alloc_new w (Obj.cells (pcv xs).toArray t)
  simp only [World.cell?, hb]
  exact ⟨by simpa using q.1, by simpa using q.2⟩
theorem exS : Sp.cutL (Cl.of UL UH UC 51) (Cl.may UL UH UC 51) 2 false [97, 32, 98, 256] = [(1, true), (2, true), (1, true)] := by decide +kernel
set_option maxRecDepth 100000 in
set_option maxHeartbeats 3200000 in
theorem fixed13_calls {w : World} (hE : Ends w) : Calls Tryd.prog 9 #[] w fun e w' => e = .returned (.bool true) ∧ Below w.heap.size w w' := by
  have HE := hid hE
  clear hE
  go_enter Tryd.func9, Tryd.ntmps9
  go_wp2_with fail
  refine (usual_calls _).mono ?_
  rintro e w1 ⟨rfl, rfl⟩
  have bu := (Below.refl w.heap.size w).alloc (Nat.le_refl _) (.cells uCells 53)
  have R1 := hid (uRs w 53 w.heap.size rfl)
  have HB1 := hid bu
  obtain ⟨W1, hW1⟩ : ∃ W, w.alloc (.cells uCells 53) = W := ⟨_, rfl⟩
  rw [hW1] at R1 HB1 ⊢
  clear bu hW1
  have bq := (Below.refl W1.heap.size W1).alloc (Nat.le_refl _) (.cells #[.int .i64 97, .int .i64 32, .int .i64 98, .int .i64 256] 3)
  have X2 := hid (show Ir (W1.alloc (.cells #[.int .i64 97, .int .i64 32, .int .i64 98, .int .i64 256] 3)) (some ⟨W1.heap.size, 0, none⟩) 4 4 [97, 32, 98, 256] from Ir.block rfl (heap_alloc_new W1 _) (by decide))
  have R2 := hid (R1.out.below bq)
  have HB2 := hid (HB1.out.trans (bq.mono HB1.out.size))
  have HE2 := hid (HE.out.below HB2.out (Nat.le_refl _))
  clear bq R1 HB1
  go_wp2_with fail
  refine (split_calls 2 R2.out X2.out false (by omega) HE2.out).mono ?_
  rw [exS]
  rintro e w3 ⟨v, rfl, o3, b3⟩
  obtain ⟨a3, c3, rfl, p3⟩ := Pc.ofOwn o3
  have HB3 := hid (HB2.out.trans (b3.mono HB2.out.size))
  have bl := (Below.refl w3.heap.size w3).alloc (Nat.le_refl _) (.cells #[.int .i64 1, .bool true, .int .i64 2, .bool true, .int .i64 1, .bool true] 33)
  have P3 := hid (p3.below bl)
  have V3 := hid (show Pc (w3.alloc (.cells #[.int .i64 1, .bool true, .int .i64 2, .bool true, .int .i64 1, .bool true] 33)) (some ⟨w3.heap.size, 0, none⟩) 3 3 [(1, true), (2, true), (1, true)] from Pc.lit rfl rfl (by decide))
  have HB4 := hid (HB3.out.trans (bl.mono HB3.out.size))
  clear b3 o3 p3 bl R2 X2 HB2 HE2 HB3
  go_wp2_with fail
  refine (psame_yes P3.out V3.out (by decide)).mono ?_
  rintro e w5 ⟨rfl, b5⟩
  have HB5 := hid (HB4.out.trans (b5.mono HB4.out.size))
  clear b5
  go_wp2_with fail
  go_ret
  exact ⟨rfl, HB5.out⟩
end Go.Proofs.YtiheagkgpbkkfaaDoor
