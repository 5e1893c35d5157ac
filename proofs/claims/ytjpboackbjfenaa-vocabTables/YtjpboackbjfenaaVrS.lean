/-
  The walk of the reference's Same, at vocabularies that are the same.
-/
import Derived.Test.YtjpboackbjfenaaVcW7
import Derived.Deep.QuietTactic
import Derived.BigQuiet
namespace Go.Proofs.Ytjpboackbjfenaa
open Go.RowKit
set_option linter.unusedVariables false

set_option maxRecDepth 100000 in
set_option maxHeartbeats 3200000 in
theorem vsame_yes {w : World} {a a' am am' az az' : Option Addr} {n n' c c' nm nm' cm cm' ns ns' cs cs' : Nat} {ts : Vc.Toks} {ms : List Mg4} {sp : Vc.Sps} (h1 : Vo w a n c am nm cm az ns cs ts ms sp) (h2 : Vo w a' n' c' am' nm' cm' az' ns' cs' ts ms sp) (hn : n ≤ 1048576) (hm : nm ≤ 1048576) (hs : ns ≤ 1048576) :
    Calls Try.prog 16 #[.agg #[.slice a n c, .slice am nm cm, .slice az ns cs], .agg #[.slice a' n' c', .slice am' nm' cm', .slice az' ns' cs']] w fun e w' => e = .returned (.bool true) ∧ Below w.heap.size w w' := by
  obtain rfl : n' = n := h2.T.len.symm.trans h1.T.len
  obtain rfl : nm' = nm := h2.M.len.symm.trans h1.M.len
  obtain rfl : ns' = ns := h2.S.len.symm.trans h1.S.len
  have B0 := hid (((Below.refl w.heap.size w).alloc (Nat.le_refl _) (.cells #[.slice a n' c, .slice am nm' cm, .slice az ns' cs] 26)).alloc (by simp) (.cells #[.slice a' n' c', .slice am' nm' cm', .slice az' ns' cs'] 26))
  have X0 := hid ((Bx3.new w 26 (.slice a n' c) (.slice am nm' cm) (.slice az ns' cs)).alloc (.cells #[.slice a' n' c', .slice am' nm' cm', .slice az' ns' cs'] 26))
  have Y0 := hid (Bx3.new (w.alloc (.cells #[.slice a n' c, .slice am nm' cm, .slice az ns' cs] 26)) 26 (.slice a' n' c') (.slice am' nm' cm') (.slice az' ns' cs'))
  rw [show (w.alloc (.cells #[.slice a n' c, .slice am nm' cm, .slice az ns' cs] 26)).heap.size = w.heap.size + 1 by simp] at Y0
  have V1 := hid (h1.below B0.out)
  have V2 := hid (h2.below B0.out)
  clear h1 h2
  obtain ⟨W, hW⟩ : ∃ W, (w.alloc (.cells #[.slice a n' c, .slice am nm' cm, .slice az ns' cs] 26)).alloc (.cells #[.slice a' n' c', .slice am' nm' cm', .slice az' ns' cs'] 26) = W := ⟨_, rfl⟩
  rw [hW] at X0 Y0 V1 V2 B0
  have x0 := X0.out.cell0
  have x1 := X0.out.cell1
  have x2 := X0.out.cell2
  have y0 := Y0.out.cell0
  have y1 := Y0.out.cell1
  have y2 := Y0.out.cell2
  go_enter Try.func16, Try.ntmps16
  go_wp2_with fail
  try rw [hW]
  clear hW
  go_loopg [36] n' (fun k iv wr => ∃ j d : Nat, k = n' - j ∧ j ≤ n' ∧ iv = .int .i64 j ∧ wr = W.drewN d)
  case atStart => exact ⟨0, 0, rfl, by omega, rfl, rfl⟩
  case round =>
    obtain ⟨j, d, rfl, hj, rfl, rfl⟩ := hrel
    by_cases hlt : j < n'
    · have k1 : (j : Int) < n' := by omega
      have k0 : (0 : Int) ≤ j := by omega
      have e2 : IntKind.i64.wrap ((j : Int) + 1) = j + 1 := i64_in (by omega) (by omega)
      obtain ⟨b1, o1, rfl, _, c1⟩ := V1.out.T.at' (by omega)
      obtain ⟨b2, o2, rfl, _, c2⟩ := V2.out.T.at' (by omega)
      have q1 := c1 j hlt
      have q2 := c2 j hlt
      obtain ⟨y, hy⟩ : ∃ y, at_ ts j = y := ⟨_, rfl⟩
      rw [hy] at q1 q2
      have hyy : (y.toList == y.toList) = true := beq_self_eq_true _
      clear c1 c2 hy
      go_wp2_with fail
      go_quiet (fail)
      go_wp2_with fail
      go_roundg (n' - (j + 1))
      case measure => omega
      case rel => exact ⟨j + 1, d + nq, rfl, by omega, by go_num, rfl⟩
    · have k1 : ¬ (j : Int) < n' := by omega
      go_wp2_with fail
      go_loopg [54] nm' (fun k iv wr => ∃ j d : Nat, k = nm' - j ∧ j ≤ nm' ∧ iv = .int .i64 j ∧ wr = W.drewN d)
      case atStart => exact ⟨0, d, rfl, by omega, rfl, rfl⟩
      case round =>
        obtain ⟨j2, d2, rfl, hj2, rfl, rfl⟩ := hrel
        by_cases hlt : j2 < nm'
        · have k1 : (j2 : Int) < nm' := by omega
          have k0 : (0 : Int) ≤ j2 := by omega
          have e2 : IntKind.i64.wrap ((j2 : Int) + 1) = j2 + 1 := i64_in (by omega) (by omega)
          obtain ⟨b1, o1, rfl, _, c1⟩ := V1.out.M.at' (by omega)
          obtain ⟨b2, o2, rfl, _, c2⟩ := V2.out.M.at' (by omega)
          obtain ⟨q0, q1, q2, q3⟩ := c1 j2 hlt
          obtain ⟨p0, p1, p2, p3⟩ := c2 j2 hlt
          obtain ⟨⟨z0, z1, z2, z3⟩, hz⟩ : ∃ z, mat ms j2 = z := ⟨_, rfl⟩
          rw [hz] at q0 q1 q2 q3 p0 p1 p2 p3
          clear c1 c2 hz
          go_wp2_with fail
          go_quiet (fail)
          go_wp2_with fail
          go_roundg (nm' - (j2 + 1))
          case measure => omega
          case rel => exact ⟨j2 + 1, d2 + nq, rfl, by omega, by go_num, rfl⟩
        · have k1 : ¬ (j2 : Int) < nm' := by omega
          go_wp2_with fail
          go_loopg [72] ns' (fun k iv wr => ∃ j d : Nat, k = ns' - j ∧ j ≤ ns' ∧ iv = .int .i64 j ∧ wr = W.drewN d)
          case atStart => exact ⟨0, d2, rfl, by omega, rfl, rfl⟩
          case round =>
            obtain ⟨j3, d3, rfl, hj3, rfl, rfl⟩ := hrel
            by_cases hlt : j3 < ns'
            · have k1 : (j3 : Int) < ns' := by omega
              have k0 : (0 : Int) ≤ j3 := by omega
              have e2 : IntKind.i64.wrap ((j3 : Int) + 1) = j3 + 1 := i64_in (by omega) (by omega)
              obtain ⟨b1, o1, rfl, _, c1⟩ := V1.out.S.at' (by omega)
              obtain ⟨b2, o2, rfl, _, c2⟩ := V2.out.S.at' (by omega)
              obtain ⟨q1, p1⟩ := c1 j3 hlt
              obtain ⟨q2, p2⟩ := c2 j3 hlt
              obtain ⟨y, hy⟩ : ∃ y, tat sp j3 = y := ⟨_, rfl⟩
              obtain ⟨z, hz⟩ : ∃ z, kat sp j3 = z := ⟨_, rfl⟩
              rw [hy] at q1 q2
              rw [hz] at p1 p2
              have hyy : (y.toList == y.toList) = true := beq_self_eq_true _
              clear c1 c2 hy hz
              go_wp2_with fail
              go_quiet (fail)
              go_wp2_with fail
              go_roundg (ns' - (j3 + 1))
              case measure => omega
              case rel => exact ⟨j3 + 1, d3 + nq, rfl, by omega, by go_num, rfl⟩
            · have k1 : ¬ (j3 : Int) < ns' := by omega
              have BB := hid (below_drewN B0.out d3)
              go_wp2_with fail
              go_ret
              exact ⟨rfl, BB.out⟩
end Go.Proofs.Ytjpboackbjfenaa
