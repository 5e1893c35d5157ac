/-
  The walk of the reference's Same, at tables that are the same.
-/
import Derived.Test.YtecbmonbeogdjaaDoorRkS
import Derived.Test.YtecbmonbeogdjaaDoorMg
namespace Go.Proofs.YtecbmonbeogdjaaDoor
open Go.RowKit
set_option linter.unusedVariables false

set_option maxRecDepth 100000 in
set_option maxHeartbeats 1600000 in
theorem msame_yes {w : World} {a b ap bp : Option Addr} {n ca cb m cap cbp : Nat} {xs : List (ByteArray × Int)} {ps : List (ByteArray × ByteArray)} (h1 : Rw w a n ca xs) (h2 : Rw w b n cb xs) (p1 : Pw w ap m cap ps) (p2 : Pw w bp m cbp ps) (hn : n ≤ 1048576) (hm : m ≤ 1048576) :
    Calls Tryd.prog 11 #[.agg #[.slice a n ca, .slice ap m cap], .agg #[.slice b n cb, .slice bp m cbp]] w fun e w' => e = .returned (.bool true) ∧ Below w.heap.size w w' := by
  have B0 := hid (((Below.refl w.heap.size w).alloc (Nat.le_refl _) (.cells #[.slice a n ca, .slice ap m cap] 25)).alloc (by simp) (.cells #[.slice b n cb, .slice bp m cbp] 25))
  have H1 := hid (h1.below B0.out)
  have H2 := hid (h2.below B0.out)
  have P1 := hid (p1.below B0.out)
  have P2 := hid (p2.below B0.out)
  have X1 := hid ((Bx2.new w 25 (.slice a n ca) (.slice ap m cap)).alloc (.cells #[.slice b n cb, .slice bp m cbp] 25))
  have X2 := hid (Bx2.new (w.alloc (.cells #[.slice a n ca, .slice ap m cap] 25)) 25 (.slice b n cb) (.slice bp m cbp))
  rw [World.size_alloc] at X2
  clear h1 h2 p1 p2
  go_enter Tryd.func11, Tryd.ntmps11
  go_wp2_with fail
  obtain ⟨W, hW⟩ : ∃ W, (w.alloc (.cells #[.slice a n ca, .slice ap m cap] 25)).alloc (.cells #[.slice b n cb, .slice bp m cbp] 25) = W := ⟨_, rfl⟩
  rw [hW] at B0 H1 H2 P1 P2 X1 X2 ⊢
  obtain ⟨R, hR⟩ : ∃ R, w.heap.size = R := ⟨_, rfl⟩
  obtain ⟨S, hS⟩ : ∃ S, R + 1 = S := ⟨_, rfl⟩
  rw [hR] at X1 X2 ⊢
  rw [hS] at X2 ⊢
  clear hW hR hS
  refine (rsame_yes H1.out H2.out hn).mono ?_
  rintro e w1 ⟨rfl, d0, rfl⟩
  have x0 := X1.out.cell0
  have x1 := X1.out.cell1
  have z0 := X2.out.cell0
  have z1 := X2.out.cell1
  go_wp2_with fail
  go_loopg [24] m (fun k iv wr => ∃ j d : Nat, k = m - j ∧ j ≤ m ∧ iv = .int .i64 j ∧ wr = W.drewN d)
  case atStart => exact ⟨0, d0, rfl, by omega, rfl, rfl⟩
  case round =>
    obtain ⟨j, d, rfl, hj, rfl, rfl⟩ := hrel
    by_cases hlt : j < m
    · have k1 : (j : Int) < m := by omega
      have k0 : (0 : Int) ≤ j := by omega
      have e2 : IntKind.i64.wrap ((j : Int) + 1) = j + 1 := i64_in (by omega) (by omega)
      obtain ⟨b1, o1, rfl, _, c1⟩ := P1.out.at' (by omega)
      obtain ⟨b2, o2, rfl, _, c2⟩ := P2.out.at' (by omega)
      obtain ⟨q1, p1⟩ := c1 j hlt
      obtain ⟨q2, p2⟩ := c2 j hlt
      obtain ⟨y, hy⟩ : ∃ y, lat ps j = y := ⟨_, rfl⟩
      obtain ⟨z, hz⟩ : ∃ z, gat ps j = z := ⟨_, rfl⟩
      rw [hy] at q1 q2
      rw [hz] at p1 p2
      have hyy : (y.toList == y.toList) = true := beq_self_eq_true _
      have hzz : (z.toList == z.toList) = true := beq_self_eq_true _
      clear c1 c2 hy hz
      go_wp2_with fail
      go_quiet (fail)
      go_wp2_with fail
      go_roundg (m - (j + 1))
      case measure => omega
      case rel => exact ⟨j + 1, d + nq, rfl, by omega, by go_num, rfl⟩
    · have k1 : ¬ (j : Int) < m := by omega
      go_wp2_with fail
      go_ret
      exact ⟨rfl, below_drewN B0.out d⟩
end Go.Proofs.YtecbmonbeogdjaaDoor
