/-
  'append' within a fence, for whatever slice is appended; a box that collects, beside two boxes that are kept. No program is named here.
-/
import Derived.Test.YtiheagkgpbkkfaaDoorTs
import Derived.RangeFuncBox
import Derived.OwnWalkIn
namespace Go.Proofs.YtiheagkgpbkkfaaDoor
open Go.RowKit

theorem wpListIn_append_src {F : Fence} {k : Nat} {P : Program} {w : World} {ops : Array Oper} {rest : List Oper} {o : Oper} {a : Act} {Q : Exit → Act → World → Prop} (hgd : o.guard = none) (s x : Operand) (t : TypeId)
    (ho : o.op = .call { callee := .builtin .append, args := #[s, x], argTypes := #[t, t] })
    (base : Nat) (e : TypeId) (i : TypeInfo) (z : Value) (size bytes : Nat) (ht : P.underlying t = some (.slice e)) (hi : P.info? e = some i) (hz : i.zero = some z)
    (hsize : i.size = size) (hby : i.bytes = bytes) (hzs : z.cells.size = size) (hsz : 0 < size)
    (v : Value) (n : Nat) (xs : List Value) (hs : a.eval s = v) (hown : w.ownsRow base e size v n xs) (ao : Option Addr) (m c : Nat) (news : List Value) (hx : a.eval x = .slice ao m c) (hsrc : Src w ao m c size news)
    (h63 : n + m ≤ maxLen) (hbytes : (n + m) * bytes ≤ 140737488355328) (hbase : base ≤ w.heap.size)
    (h : ∀ v' w', w'.ownsRow base e size v' (n + m) (xs ++ news) → w.grownBy w' v.ownBlock → (v'.ownBlock = v.ownBlock ∨ v'.ownBlock = some w.heap.size) → wpListIn F k P ops Q rest (a.put o.dst v') w') : wpListIn F k P ops Q (o :: rest) a w := by
  refine wpListIn_plain hgd fun K hK' => ?_
  obtain ⟨v', w', hrun, r1, r2, r3⟩ := run_append_src (P := P) (w := w) base t o.type e i z size bytes ht hi hz hsize hby hzs hsz v n xs hown ao m c news hsrc h63 hbytes hbase
  unfold Oper.wpIn
  refine ⟨?_, ?_⟩
  · simp [Oper.about, ho, resolve, Target.leads, Sem.run_pure]
  · rw [Oper.semAt_plain F _ _ (by rw [ho]; intro c hc'; cases hc')]
    simp [execOp, ho, resolve, invoke, builtin, hs, hx, hrun, Result.andThen]
    exact hK' _ _ (h v' w' r1 r2 r3)

/-- A block that is neither the box nor the row's own lies as it lay behind 'out = append(out, x)'. -/
theorem block_appended {W w1 : World} {B Bs : Nat} {v v' : Value} {tmp : Obj} (hgrow : (W.alloc tmp).grownBy w1 v.ownBlock) (h1 : Bs < W.heap.size) (h2 : v.ownBlock ≠ some Bs) (h3 : Bs ≠ B) : (w1.setCell ⟨B, 0, none⟩ v').heap[Bs]? = W.heap[Bs]? := by
  rw [Below.heap_setCell _ _ _ Bs h3, hgrow.block Bs (by simp; omega) (fun e => h2 e.symm)]
  exact Below.heap_alloc _ _ _ h1
/-- .. and the row's own block is not among the kept ones. -/
theorem block_new {W : World} {v v' : Value} {tmp : Obj} {M : Nat} (hv : ∀ g, v.ownBlock = some g → M ≤ g) (hM : M ≤ W.heap.size) (h : v'.ownBlock = v.ownBlock ∨ v'.ownBlock = some (W.alloc tmp).heap.size) : ∀ g, v'.ownBlock = some g → M ≤ g := by
  intro g hg
  rcases h with h | h
  · exact hv g (by rw [← h]; exact hg)
  · rw [h] at hg
    simp at hg
    omega
theorem src_text {w : World} (x : ByteArray) (t : TypeId) : Src (w.alloc (.cells #[.string x] t)) (some ⟨w.heap.size, 0, none⟩) 1 1 1 [.string x] :=
  Src.new #[.string x] t w.heap.size rfl rfl (fun u hu => by simp at hu; subst hu; rfl)
end Go.Proofs.YtiheagkgpbkkfaaDoor
