/-
  Walks of a table's Find, and of the reference's.
-/
import Derived.Test.YtfgbpjajkmfkoaaPrMap
namespace Go.Proofs.Ytfgbpjajkmfkoaa
open Go.RowKit Go.Maps
set_option linter.unusedVariables false

/-- All four cells of a block written. -/
def quad (W : World) (R : Nat) (x y z u : Value) : World := (((W.setCell ⟨R, 0, none⟩ x).setCell ⟨R, 1, none⟩ y).setCell ⟨R, 2, none⟩ z).setCell ⟨R, 3, none⟩ u
theorem ret_quad {W : World} {R : Nat} {t : TypeId} {a b c d : Value} (X : Bx4 W R t a b c d) (x y z u : Value) :
    Bx4 (W.setCell ⟨R, 0, none⟩ x) R t x b c d ∧ Bx4 ((W.setCell ⟨R, 0, none⟩ x).setCell ⟨R, 1, none⟩ y) R t x y c d ∧ Bx4 (((W.setCell ⟨R, 0, none⟩ x).setCell ⟨R, 1, none⟩ y).setCell ⟨R, 2, none⟩ z) R t x y z d ∧ Bx4 (quad W R x y z u) R t x y z u :=
  have h1 := X.set0 x
  have h2 := h1.set1 y
  have h3 := h2.set2 z
  ⟨h1, h2, h3, h3.set3 u⟩
theorem below_quad {w W : World} {n R : Nat} (h : Below n w W) (hR : n ≤ R) (x y z u : Value) : Below n w (quad W R x y z u) :=
  (((h.setCell (p := ⟨R, 0, none⟩) hR x).setCell (p := ⟨R, 1, none⟩) hR y).setCell (p := ⟨R, 2, none⟩) hR z).setCell (p := ⟨R, 3, none⟩) hR u

set_option maxRecDepth 100000 in
set_option maxHeartbeats 3200000 in
theorem find_calls {w : World} {B : Nat} {ms : List Mg4} (T : TbIn w B ms) (l r : Int) (hl : (Lit.int .i64 l).wf = true) (hr : (Lit.int .i64 r).wf = true) :
    Calls Try.prog 12 #[.pointer (some ⟨B, 0, none⟩), .int .i64 l, .int .i64 r] w fun e w' => e = .returned (.tuple #[vm (Pr.fm ms l r), .bool (Pr.fb ms l r)]) ∧ Below w.heap.size w w' := by
  obtain ⟨M, hB, hM⟩ := T
  obtain ⟨W, hW⟩ : ∃ W, w.alloc (.cells #[.int .i64 0, .int .i64 0, .int .i64 0, .int .i64 0] 34) = W := ⟨_, rfl⟩
  have M1 := hM.alloc (.cells #[.int .i64 0, .int .i64 0, .int .i64 0, .int .i64 0] 34)
  have h1 := cell_alloc hB (.cells #[.int .i64 0, .int .i64 0, .int .i64 0, .int .i64 0] 34)
  have R0 := hid (Bx4.new w 34 (.int .i64 0) (.int .i64 0) (.int .i64 0) (.int .i64 0))
  have B0 := hid ((Below.refl w.heap.size w).alloc (Nat.le_refl _) (.cells #[.int .i64 0, .int .i64 0, .int .i64 0, .int .i64 0] 34))
  have lk := M1.look l r hl hr
  obtain ⟨⟨x0, x1, x2, x3⟩, hx⟩ : ∃ x, Pr.fm ms l r = x := ⟨_, rfl⟩
  obtain ⟨t, ht⟩ : ∃ t, Pr.fb ms l r = t := ⟨_, rfl⟩
  rw [hx, ht] at lk
  rw [hx, ht]
  unfold vm at lk ⊢
  simp only at lk ⊢
  rw [hW] at h1 lk R0 B0
  have hs := hid (show W.heap.size = w.heap.size + 1 by rw [← hW]; simp)
  clear hx ht hB hM M1 hl hr
  have R1 := hid (R0.out.alloc (.cells #[.int .i64 x0, .int .i64 x1, .int .i64 x2, .int .i64 x3] 34))
  have X1 := hid (Bx4.new W 34 (.int .i64 x0) (.int .i64 x1) (.int .i64 x2) (.int .i64 x3))
  have B1 := hid (B0.out.alloc B0.out.size (.cells #[.int .i64 x0, .int .i64 x1, .int .i64 x2, .int .i64 x3] 34))
  obtain ⟨y1, y2, y3, y4⟩ := ret_quad R1.out (.int .i64 x0) (.int .i64 x1) (.int .i64 x2) (.int .i64 x3)
  have BB := hid (below_quad B1.out (R := w.heap.size) (Nat.le_refl _) (.int .i64 x0) (.int .i64 x1) (.int .i64 x2) (.int .i64 x3))
  have p0 := R1.out.cell0
  have q0 := R1.out.fr 0
  have u1 := y1.cell1
  have v1 := y1.fr 1
  have u2 := y2.cell2
  have v2 := y2.fr 2
  have u3 := y3.cell3
  have v3 := y3.fr 3
  have r0 := y4.cell0
  have r1 := y4.cell1
  have r2 := y4.cell2
  have r3 := y4.cell3
  have z0 := X1.out.cell0
  have z1 := X1.out.cell1
  have z2 := X1.out.cell2
  have z3 := X1.out.cell3
  unfold quad at r0 r1 r2 r3
  clear y1 y2 y3 y4 R0 B0
  go_enter Try.func12, Try.ntmps12
  go_wp2_with fail
  try rw [hW]
  clear hW
  go_wp2_with fail
  refine bodyPost_ret (v := .tuple #[.agg #[.int .i64 x0, .int .i64 x1, .int .i64 x2, .int .i64 x3], .bool t]) (by simp [results, Try.results12, go_sem, r0, r1, r2, r3]) rfl ?_
  exact ⟨rfl, BB.out⟩

theorem find_is {w : World} {B : Nat} {ms : List Mg4} (T : TbIn w B ms) (l r : Int) (hl : (Lit.int .i64 l).wf = true) (hr : (Lit.int .i64 r).wf = true) {x0 x1 x2 x3 : Int} {t : Bool} (hx : Pr.fm ms l r = (x0, x1, x2, x3)) (ht : Pr.fb ms l r = t) :
    Calls Try.prog 12 #[.pointer (some ⟨B, 0, none⟩), .int .i64 l, .int .i64 r] w fun e w' => e = .returned (.tuple #[.agg #[.int .i64 x0, .int .i64 x1, .int .i64 x2, .int .i64 x3], .bool t]) ∧ Below w.heap.size w w' := by
  have h := find_calls T l r hl hr
  rw [hx, ht] at h
  exact h

/-- The place of a merge, or -1. -/
def Pr.fz (ms : List Mg4) (l r : Int) : Int := match Pr.fnd ms l r with | some k => (k : Int) | none => -1
set_option maxRecDepth 100000 in
set_option maxHeartbeats 3200000 in
theorem rfind_calls {w : World} {a am az : Option Addr} {n c nm cm ns cs : Nat} {ms : List Mg4} (M : Qw w am nm cm ms) (l r : Int) (hm : nm ≤ 1000000) :
    Calls Try.prog 13 #[.agg #[.slice a n c, .slice am nm cm, .slice az ns cs], .int .i64 l, .int .i64 r] w fun e w' => e = .returned (.int .i64 (Pr.fz ms l r)) ∧ Below w.heap.size w w' := by
  have hlm := M.len
  have B0 := hid ((Below.refl w.heap.size w).alloc (Nat.le_refl _) (.cells #[.slice a n c, .slice am nm cm, .slice az ns cs] 26))
  have X0 := hid (Bx3.new w 26 (.slice a n c) (.slice am nm cm) (.slice az ns cs))
  have M0 := hid (M.below B0.out)
  clear M
  obtain ⟨W, hW⟩ : ∃ W, w.alloc (.cells #[.slice a n c, .slice am nm cm, .slice az ns cs] 26) = W := ⟨_, rfl⟩
  rw [hW] at X0 M0 B0
  have x0 := X0.out.cell0
  have x1 := X0.out.cell1
  have x2 := X0.out.cell2
  go_enter Try.func13, Try.ntmps13
  go_wp2_with fail
  try rw [hW]
  clear hW X0
  go_loopg [11] nm (fun q iv wr => ∃ j : Nat, q = nm - j ∧ j ≤ nm ∧ iv = .int .i64 j ∧ Hid (Pr.fndTo ms l r j = none) ∧ W = wr)
  case atStart => exact ⟨0, rfl, by omega, rfl, hid rfl, rfl⟩
  case round =>
    obtain ⟨j, rfl, hj, rfl, HF, rfl⟩ := hrel
    by_cases hlt : j < nm
    · have l0 : (0 : Int) ≤ j := by omega
      have l1 : (j : Int) < nm := by omega
      have l2 : IntKind.i64.wrap ((j : Int) + 1) = j + 1 := i64_in (by omega) (by omega)
      obtain ⟨b, off, rfl, hbl, hc⟩ := M0.out.at' (by omega)
      obtain ⟨p0, p1, p2, p3⟩ := hc j hlt
      obtain ⟨⟨y0, y1, y2, y3⟩, hx⟩ : ∃ x, mat ms j = x := ⟨_, rfl⟩
      rw [hx] at p0 p1 p2 p3
      have HX := hid hx
      clear hc hx p2 p3
      by_cases h0 : y0 = l
      · by_cases h1 : y1 = r
        · have HZ := hid (show Pr.fz ms l r = (j : Int) by
            unfold Pr.fz
            rw [Pr.fnd_hit (by omega) HF.out (by rw [HX.out]; exact ⟨h0, h1⟩)])
          subst h0 h1
          go_wp2_with fail
          go_ret
          exact ⟨by rw [HZ.out]; rfl, B0.out⟩
        · have HZ := hid (Pr.fndTo_miss HF.out (by rw [HX.out]; exact fun h => h1 h.2))
          have e1 : (y1 == r) = false := by simpa using h1
          subst h0
          go_wp2_with fail
          go_roundg (nm - (j + 1))
          case measure => omega
          case rel => exact ⟨j + 1, rfl, by omega, by go_num, HZ, rfl⟩
      · have HZ := hid (Pr.fndTo_miss HF.out (by rw [HX.out]; exact fun h => h0 h.1))
        have e1 : (y0 == l) = false := by simpa using h0
        go_wp2_with fail
        go_roundg (nm - (j + 1))
        case measure => omega
        case rel => exact ⟨j + 1, rfl, by omega, by go_num, HZ, rfl⟩
    · have l1 : ¬ (j : Int) < nm := by omega
      have HZ := hid (show Pr.fz ms l r = -1 by
        have h : Pr.fnd ms l r = none := by unfold Pr.fnd; rw [show ms.length = j by omega]; exact HF.out
        unfold Pr.fz
        rw [h])
      go_wp2_with fail
      go_ret
      exact ⟨by rw [HZ.out]; rfl, B0.out⟩
end Go.Proofs.Ytfgbpjajkmfkoaa
