/-
  'copy' into a block that is known whole, from a slice of bytes or a string, as one step of a region that draws its order. No program is named here.
-/
import Derived.Test.YthemaacfjmcbnaaDoorSt
import Derived.Laws.CopyOwn
namespace Go.Proofs.YthemaacfjmcbnaaDoor
open Go.RowKit

/-- f over the first m places of g. -/
def ovl (f : Nat → Int) (m : Nat) (g : Nat → Int) : Nat → Int := fun i => if i < m then f i else g i
theorem splice_vals (f g : Nat → Int) (m N : Nat) : splice (vals g N) 0 (vals f (min m N)) = vals (ovl f m g) N := by
  unfold splice
  rw [List.take_zero, List.nil_append, vals_length, Nat.zero_add]
  apply List.ext_getElem?
  intro i
  by_cases h : i < min m N
  · rw [List.getElem?_append_left (by rw [vals_length]; exact h), vals_get _ _ _ h, vals_get _ _ _ (by omega)]
    unfold ovl; rw [if_pos (by omega)]
  · rw [List.getElem?_append_right (by rw [vals_length]; omega), vals_length, List.getElem?_drop, show min m N + (i - min m N) = i by omega]
    by_cases h2 : i < N
    · rw [vals_get _ _ _ h2, vals_get _ _ _ h2]
      unfold ovl; rw [if_neg (by omega)]
    · rw [List.getElem?_eq_none (by rw [vals_length]; omega), List.getElem?_eq_none (by rw [vals_length]; omega)]

theorem step_copy_sl {P : Program} {ops : Array Oper} {o : Oper} {a : Act} {w : World} {K : Act → World → Prop} {Q : Exit → Act → World → Prop} {E : Prop} (hgd : o.guard = none) (d s : Operand) (dT sT : TypeId)
    (ho : o.op = .call { callee := .builtin .copy, args := #[d, s], argTypes := #[dT, sT] }) (elem : TypeId) (hu : P.underlying dT = some (.slice elem)) (hsz : (P.info? elem).map (·.size) = some 1)
    (g N dCap : Nat) (sp : Option Addr) (m c : Nat) (hd : a.eval d = .slice (some ⟨g, 0, none⟩) N dCap) (hs : a.eval s = .slice sp m c)
    (h : Nat → Int) (t : TypeId) (hg : w.heap[g]? = some (.cells (vals h N).toArray t (0, 0))) (f : Nat → Int) (hsl : Sl w sp m c f)
    (B : Nat) (w0 : World) (hb : Below B w0 w) (hBg : B ≤ g)
    (hk : ∀ w', Hid (w'.heap[g]? = some (.cells (vals (ovl f m h) N).toArray t (0, 0))) → Below B w0 w' → K (a.put o.dst (.int .i64 (min m N : Nat))) w') :
    if Region.wanted o (yielded ops a.tmps) = true then Oper.wp P o a w K Q else E := by
  refine step_copy_splice hgd d s dT sT ho elem hu hsz (some ⟨g, 0, none⟩) sp N dCap m c hd hs g 0 (vals h N) t hg (vals f (min m N)) (by rw [vals_length]) ?_ (by rw [vals_length, vals_length]; omega) (vals_one f _) B w0 hb hBg ?_
  · intro h0
    rw [vals_length] at h0
    obtain ⟨b, off, rfl, _, hc⟩ := hsl.at' (by omega)
    refine ⟨rfl, ⟨b, off, none⟩, rfl, fun j v hj => ?_⟩
    obtain ⟨hlt, rfl⟩ := vals_get_inv hj
    rw [Addr.add_lit]
    exact hc j (by omega)
  · intro w' h1 h2
    rw [splice_vals] at h1
    rw [vals_length]
    exact hk w' h1 h2

/-- From a string. -/
theorem run_copy_st {P : Program} (w : World) (dT sT ty elem : TypeId) (g N dCap : Nat) (s : ByteArray) (m : Nat) (f : Nat → Int) (hS : St s m f) (h : Nat → Int) (t : TypeId)
    (hu : P.underlying dT = some (.slice elem)) (hsz : (P.info? elem).map (·.size) = some 1) (hg : w.heap[g]? = some (.cells (vals h N).toArray t (0, 0))) :
    (Builtin.copy_ #[dT, sT] ty #[.slice (some ⟨g, 0, none⟩) N dCap, .string s]).run P w = .ok (.int .i64 (min m N : Nat)) (w.setRow g (vals (ovl f m h) N).toArray) := by
  have hcs : ((s.extract 0 (Nat.min s.size N)).data.map fun b => Value.int .u8 b.toNat).toList = vals f (min m N) := by
    have hz := hS.size
    have q := hS.extract 0 (min m N) (by omega) (by omega)
    rw [hz, show Nat.min m N = min m N from rfl]
    apply List.ext_getElem
    · rw [vals_length]
      have := q.size
      simp only [Array.length_toList, Array.size_map]
      show (s.extract 0 (min m N)).size = _
      omega
    · intro i h1 h2
      rw [vals_length] at h2
      have h3 := vals_get f (min m N) i h2
      rw [List.getElem?_eq_getElem (by rw [vals_length]; exact h2)] at h3
      rw [Option.some.inj h3]
      have := q.get i (by rw [q.size]; omega)
      simp only [Array.getElem_toList, Array.getElem_map]
      rw [Nat.zero_add] at this
      rw [← this]
      rfl
  have hst := run_storeCells_at P g 0 t (vals f (min m N)) 0 (vals h N).toArray w hg (by simp [vals_length]; omega) (vals_one f _)
  have hsp := splice_vals f h m N
  unfold splice at hsp
  rw [List.take_zero, List.nil_append, Nat.zero_add] at hsp
  simp only [Nat.add_zero, Nat.zero_add, List.take_zero, List.nil_append] at hst
  rw [hsp] at hst
  cases hq : P.info? elem with
  | none => simp [hq] at hsz
  | some i =>
    have hi : i.size = 1 := by simpa [hq] using hsz
    have hmin : s.size.min N = min m N := by rw [hS.size]
    simp only [Builtin.copy_, run_underlying hu, Builtin.lenOf, Builtin.firstCells, sizeOf, typeInfo, List.getElem?_toArray, List.getElem?_cons_zero, List.getElem?_cons_succ, Sem.run_bind, Sem.run_pure, Result.andThen_ok, hcs]
    simp [goInt, hmin, hst, hq, hi]

theorem step_copy_st {P : Program} {ops : Array Oper} {o : Oper} {a : Act} {w : World} {K : Act → World → Prop} {Q : Exit → Act → World → Prop} {E : Prop} (hgd : o.guard = none) (d x : Operand) (dT sT : TypeId)
    (ho : o.op = .call { callee := .builtin .copy, args := #[d, x], argTypes := #[dT, sT] }) (elem : TypeId) (hu : P.underlying dT = some (.slice elem)) (hsz : (P.info? elem).map (·.size) = some 1)
    (g N dCap : Nat) (s : ByteArray) (hd : a.eval d = .slice (some ⟨g, 0, none⟩) N dCap) (hs : a.eval x = .string s)
    (h : Nat → Int) (t : TypeId) (hg : w.heap[g]? = some (.cells (vals h N).toArray t (0, 0))) (m : Nat) (f : Nat → Int) (hS : St s m f)
    (B : Nat) (w0 : World) (hb : Below B w0 w) (hBg : B ≤ g)
    (hk : ∀ w', Hid (w'.heap[g]? = some (.cells (vals (ovl f m h) N).toArray t (0, 0))) → Below B w0 w' → K (a.put o.dst (.int .i64 (min m N : Nat))) w') :
    if Region.wanted o (yielded ops a.tmps) = true then Oper.wp P o a w K Q else E := by
  have hw : Region.wanted o (yielded ops a.tmps) = true := by simp [Region.wanted, hgd]
  rw [if_pos hw]
  have hrun := run_copy_st (P := P) w dT sT o.type elem g N dCap s m f hS h t hu hsz hg
  unfold Oper.wp
  simp [execOp, ho, resolve, invoke, builtin, hd, hs, hrun, Result.andThen]
  exact hk _ (setRow_heap w g _ _ t _ hg) (below_setRow hb hBg _)
end Go.Proofs.YthemaacfjmcbnaaDoor
