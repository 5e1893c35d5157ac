/-
  The walk of the reference's Same, at rows that are the same.
-/
import Derived.Test.YtecbmonbeogdjaaDoorRkI
import Derived.Deep.LoopGhost
import Derived.Deep.QuietTactic
import Derived.BigQuiet
namespace Go.Proofs.YtecbmonbeogdjaaDoor
open Go.RowKit
set_option linter.unusedVariables false

set_option maxHeartbeats 1600000 in
theorem rsame_yes {w : World} {a b : Option Addr} {n ca cb : Nat} {xs : List (ByteArray × Int)} (h1 : Rw w a n ca xs) (h2 : Rw w b n cb xs) (hn : n ≤ 1048576) :
    Calls Tryd.prog 24 #[.slice a n ca, .slice b n cb] w fun e w' => e = .returned (.bool true) ∧ ∃ d, w' = w.drewN d := by
  have H1 := hid h1
  have H2 := hid h2
  clear h1 h2
  go_enter Tryd.func24, Tryd.ntmps24
  go_wp2_with fail
  go_loopg [13] n (fun k iv wr => ∃ j d : Nat, k = n - j ∧ j ≤ n ∧ iv = .int .i64 j ∧ wr = w.drewN d)
  case atStart => exact ⟨0, 0, rfl, by omega, rfl, rfl⟩
  case round =>
    obtain ⟨j, d, rfl, hj, rfl, rfl⟩ := hrel
    by_cases hlt : j < n
    · have k1 : (j : Int) < n := by omega
      have k0 : (0 : Int) ≤ j := by omega
      have e2 : IntKind.i64.wrap ((j : Int) + 1) = j + 1 := i64_in (by omega) (by omega)
      obtain ⟨b1, o1, rfl, _, c1⟩ := H1.out.at' (by omega)
      obtain ⟨b2, o2, rfl, _, c2⟩ := H2.out.at' (by omega)
      obtain ⟨q1, p1⟩ := c1 j hlt
      obtain ⟨q2, p2⟩ := c2 j hlt
      obtain ⟨y, hy⟩ : ∃ y, tat xs j = y := ⟨_, rfl⟩
      obtain ⟨z, hz⟩ : ∃ z, kat xs j = z := ⟨_, rfl⟩
      rw [hy] at q1 q2
      rw [hz] at p1 p2
      have hyy : (y.toList == y.toList) = true := beq_self_eq_true _
      clear c1 c2 hy hz
      go_wp2_with fail
      go_quiet (fail)
      go_wp2_with fail
      go_roundg (n - (j + 1))
      case measure => omega
      case rel => exact ⟨j + 1, d + nq, rfl, by omega, by go_num, rfl⟩
    · have k1 : ¬ (j : Int) < n := by omega
      go_wp2_with fail
      go_ret
      exact ⟨rfl, d, rfl⟩
end Go.Proofs.YtecbmonbeogdjaaDoor
