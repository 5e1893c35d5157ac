/-
  A call of a Go function as a step of a region that draws its order. No program is named here.
-/
import Derived.WalkKit
import Derived.Deep.RegionLaw
namespace Go.Proofs.Ytcjakjmhghoilaa
open Go.RowKit
/-- A call whose answer is known, as a step of a region that draws. -/
theorem step_call {P : Program} {w : World} {ops : Array Oper} {o : Oper} {a : Act} {K : Act → World → Prop} {Q : Exit → Act → World → Prop} {E : Prop} {R : World → Prop} (hgd : o.guard = none) (F : FuncId) (xs : Array Operand) (ts : Array TypeId)
    (ho : o.op = .call { callee := .value (.func F), args := xs, argTypes := ts }) (vals : Array Value) (hv : xs.toList.map a.eval = vals.toList) (hen : (callFunc F vals).run P w = .ok (.enter F vals) w) (v : Value) (hc : Calls P F vals w fun e w' => e = .returned v ∧ R w') (h : ∀ w', R w' → K (a.put o.dst v) w') :
    if Region.wanted o (yielded ops a.tmps) = true then Oper.wp P o a w K Q else E := by
  have hw : Region.wanted o (yielded ops a.tmps) = true := by simp [Region.wanted, hgd]
  rw [if_pos hw]
  unfold Oper.wp
  have e : (execOp a.eval o).run P w = .ok (.enter F vals) w := by
    have hv2 : xs.map a.eval = vals := by apply Array.toList_inj.1; rw [Array.toList_map, hv]
    subst hv2
    simp [execOp, ho, resolve, invoke, Act.eval, Deferred.ofValue, go_sem]
    exact hen
  rw [e, Oper.upon_enter]
  refine hc.mono ?_
  rintro e w' ⟨rfl, hR⟩
  exact h w' hR
end Go.Proofs.Ytcjakjmhghoilaa
