/-
  A call whose contract is known, as a step of a region that draws its order. No program is named here.
-/
import Derived.WalkKit
import Derived.Deep.RegionLaw
namespace Go.Proofs.Ytcjakjmhghoilaa
open Go.RowKit
/-- A call whose contract is known, as a step of a region that draws. -/
theorem step_call_any {P : Program} {w : World} {ops : Array Oper} {o : Oper} {a : Act} {K : Act → World → Prop} {Q : Exit → Act → World → Prop} {E : Prop} {R : Value → World → Prop} (hgd : o.guard = none) (F : FuncId) (xs : Array Operand) (ts : Array TypeId)
    (ho : o.op = .call { callee := .value (.func F), args := xs, argTypes := ts }) (vals : Array Value) (hv : xs.toList.map a.eval = vals.toList) (hen : (callFunc F vals).run P w = .ok (.enter F vals) w) (hc : Calls P F vals w fun e w' => ∃ v, e = .returned v ∧ R v w') (h : ∀ v w', R v w' → K (a.put o.dst v) w') :
    if Region.wanted o (yielded ops a.tmps) = true then Oper.wp P o a w K Q else E := by
  have hw : Region.wanted o (yielded ops a.tmps) = true := by simp [Region.wanted, hgd]
  rw [if_pos hw]
  unfold Oper.wp
  have e : (execOp a.eval o).run P w = .ok (.enter F vals) w := by
    have hv2 : xs.map a.eval = vals := by apply Array.toList_inj.1; rw [Array.toList_map, hv]
    subst hv2
    simp [execOp, ho, resolve, invoke, Act.eval, Deferred.ofValue, go_sem]
    exact hen
  rw [e, Oper.upon_enter]
  refine hc.mono ?_
  rintro e w' ⟨v, rfl, hR⟩
  exact h v w' hR
end Go.Proofs.Ytcjakjmhghoilaa
