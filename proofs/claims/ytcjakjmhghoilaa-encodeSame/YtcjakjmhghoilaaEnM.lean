/-
  What is being merged, in memory: a block of a slice of links, a function and an agenda. A call of a function's value as a step of a region that draws.
-/
import Derived.Test.YtcjakjmhghoilaaEnC
import Derived.Test.YtcjakjmhghoilaaLotP
import Derived.Test.YtcjakjmhghoilaaLotA
import Derived.Test.YtcjakjmhghoilaaEnJn
import Derived.Deep.RegionLaw
import Derived.OwnWalk
namespace Go.Proofs.Ytcjakjmhghoilaa
open Go.RowKit Go.Maps
set_option linter.unusedVariables false
open Pr (it)
open Hp (Ent lt wo Dis)
/-- A call of a function's value, as a step of a region that draws. -/
theorem step_call_val {P : Program} {w : World} {ops : Array Oper} {o : Oper} {a : Act} {K : Act → World → Prop} {Q : Exit → Act → World → Prop} {E : Prop} {R : Value → World → Prop} (hgd : o.guard = none) (c : Operand) (F : FuncId) (first : Array Value) (xs : Array Operand) (ts : Array TypeId)
    (ho : o.op = .call { callee := .value c, args := xs, argTypes := ts }) (hcv : a.eval c = .func (.func F) first #[]) (vals : Array Value) (hv : first.toList ++ xs.toList.map a.eval = vals.toList) (hen : (callFunc F vals).run P w = .ok (.enter F vals) w) (hc : Calls P F vals w fun e w' => ∃ v, e = .returned v ∧ R v w') (h : ∀ v w', R v w' → K (a.put o.dst v) w') :
    if Region.wanted o (yielded ops a.tmps) = true then Oper.wp P o a w K Q else E := by
  have hw : Region.wanted o (yielded ops a.tmps) = true := by simp [Region.wanted, hgd]
  rw [if_pos hw]
  unfold Oper.wp
  have e : (execOp a.eval o).run P w = .ok (.enter F vals) w := by
    have hv2 : first ++ xs.map a.eval = vals := by apply Array.toList_inj.1; rw [Array.toList_append, Array.toList_map, hv]
    subst hv2
    revert hcv hen
    generalize a.eval = ρ
    intro hcv hen
    simp [execOp, ho, resolve, invoke, Deferred.ofValue, hcv, go_sem]
    exact hen
  rw [e, Oper.upon_enter]
  refine hc.mono ?_
  rintro e w' ⟨v, rfl, hR⟩
  exact h v w' hR

/-! ### A row of links -/
def Lr (w : World) (K N : Nat) (ids ls nx : Nat → Int) : Prop := w.heap[K]? = some (.cells (fvals ids ls nx N).toArray 92 (0, 0))
section
variable {w w' : World} {K N : Nat} {ids ls nx : Nat → Int}
theorem Lr.lt (h : Lr w K N ids ls nx) : K < w.heap.size := (Array.getElem?_eq_some_iff.1 h).1
theorem Lr.at' (h : Lr w K N ids ls nx) {i : Nat} (hi : i < N) : w.cell? ⟨K, i * 3, none⟩ = some (.int .i64 (ids i)) ∧ w.cell? ⟨K, i * 3 + 1, none⟩ = some (.int .i64 (ls i)) ∧ w.cell? ⟨K, i * 3 + 2, none⟩ = some (.int .i64 (nx i)) := by
  obtain ⟨a0, a1, a2⟩ := fvals_get ids ls nx N i hi
  refine ⟨?_, ?_, ?_⟩
  · simp [World.cell?, show w.heap[K]? = _ from h, a0]
  · simp [World.cell?, show w.heap[K]? = _ from h, a1]
  · simp [World.cell?, show w.heap[K]? = _ from h, a2]
theorem Lr.fr (h : Lr w K N ids ls nx) (j : Nat) : w.frozen? ⟨K, j, none⟩ = false := by simp [World.frozen?, show w.heap[K]? = _ from h]
theorem fvals_set0 (L H C : Nat → Int) {n i : Nat} (v : Int) (hi : i < n) : (fvals L H C n).set (i * 3) (.int .i64 v) = fvals (Pr.up L i v) H C n := by
  have hl := fvals_length L H C n
  apply List.ext_getElem?
  intro j
  rw [List.getElem?_set, hl]
  by_cases hj : j < n * 3
  · obtain ⟨q, r, hr, rfl⟩ : ∃ q r, r < 3 ∧ j = q * 3 + r := ⟨j / 3, j % 3, by omega, by omega⟩
    have hq : q < n := by omega
    obtain ⟨a0, a1, a2⟩ := fvals_get L H C n q hq
    obtain ⟨b0, b1, b2⟩ := fvals_get (Pr.up L i v) H C n q hq
    obtain rfl | rfl | rfl : r = 0 ∨ r = 1 ∨ r = 2 := by omega
    · by_cases e : q = i
      · subst e; rw [Pr.up_at] at b0; rw [if_pos (by omega), if_pos (by omega)]; exact b0.symm
      · rw [Pr.up_ne _ e] at b0; rw [if_neg (by omega)]; exact a0.trans b0.symm
    · rw [if_neg (by omega)]; exact a1.trans b1.symm
    · rw [if_neg (by omega)]; exact a2.trans b2.symm
  · rw [if_neg (by omega), List.getElem?_eq_none (by omega), List.getElem?_eq_none (by rw [fvals_length]; omega)]
theorem fvals_set1 (L H C : Nat → Int) {n i : Nat} (v : Int) (hi : i < n) : (fvals L H C n).set (i * 3 + 1) (.int .i64 v) = fvals L (Pr.up H i v) C n := by
  have hl := fvals_length L H C n
  apply List.ext_getElem?
  intro j
  rw [List.getElem?_set, hl]
  by_cases hj : j < n * 3
  · obtain ⟨q, r, hr, rfl⟩ : ∃ q r, r < 3 ∧ j = q * 3 + r := ⟨j / 3, j % 3, by omega, by omega⟩
    have hq : q < n := by omega
    obtain ⟨a0, a1, a2⟩ := fvals_get L H C n q hq
    obtain ⟨b0, b1, b2⟩ := fvals_get L (Pr.up H i v) C n q hq
    obtain rfl | rfl | rfl : r = 0 ∨ r = 1 ∨ r = 2 := by omega
    · rw [if_neg (by omega)]; exact a0.trans b0.symm
    · by_cases e : q = i
      · subst e; rw [Pr.up_at] at b1; rw [if_pos (by omega), if_pos (by omega)]; exact b1.symm
      · rw [Pr.up_ne _ e] at b1; rw [if_neg (by omega)]; exact a1.trans b1.symm
    · rw [if_neg (by omega)]; exact a2.trans b2.symm
  · rw [if_neg (by omega), List.getElem?_eq_none (by omega), List.getElem?_eq_none (by rw [fvals_length]; omega)]
theorem fvals_set2 (L H C : Nat → Int) {n i : Nat} (v : Int) (hi : i < n) : (fvals L H C n).set (i * 3 + 2) (.int .i64 v) = fvals L H (Pr.up C i v) n := by
  have hl := fvals_length L H C n
  apply List.ext_getElem?
  intro j
  rw [List.getElem?_set, hl]
  by_cases hj : j < n * 3
  · obtain ⟨q, r, hr, rfl⟩ : ∃ q r, r < 3 ∧ j = q * 3 + r := ⟨j / 3, j % 3, by omega, by omega⟩
    have hq : q < n := by omega
    obtain ⟨a0, a1, a2⟩ := fvals_get L H C n q hq
    obtain ⟨b0, b1, b2⟩ := fvals_get L H (Pr.up C i v) n q hq
    obtain rfl | rfl | rfl : r = 0 ∨ r = 1 ∨ r = 2 := by omega
    · rw [if_neg (by omega)]; exact a0.trans b0.symm
    · rw [if_neg (by omega)]; exact a1.trans b1.symm
    · by_cases e : q = i
      · subst e; rw [Pr.up_at] at b2; rw [if_pos (by omega), if_pos (by omega)]; exact b2.symm
      · rw [Pr.up_ne _ e] at b2; rw [if_neg (by omega)]; exact a2.trans b2.symm
  · rw [if_neg (by omega), List.getElem?_eq_none (by omega), List.getElem?_eq_none (by rw [fvals_length]; omega)]
theorem Lr.set0 (h : Lr w K N ids ls nx) {i : Nat} (hi : i < N) (v : Int) : Lr (w.setCell ⟨K, i * 3, none⟩ (.int .i64 v)) K N (Pr.up ids i v) ls nx := by
  unfold Lr
  rw [← fvals_set0 ids ls nx v hi, World.setCell, Array.getElem?_modify, if_pos rfl, show w.heap[K]? = _ from h]
  simp
theorem Lr.set1 (h : Lr w K N ids ls nx) {i : Nat} (hi : i < N) (v : Int) : Lr (w.setCell ⟨K, i * 3 + 1, none⟩ (.int .i64 v)) K N ids (Pr.up ls i v) nx := by
  unfold Lr
  rw [← fvals_set1 ids ls nx v hi, World.setCell, Array.getElem?_modify, if_pos rfl, show w.heap[K]? = _ from h]
  simp
theorem Lr.set2 (h : Lr w K N ids ls nx) {i : Nat} (hi : i < N) (v : Int) : Lr (w.setCell ⟨K, i * 3 + 2, none⟩ (.int .i64 v)) K N ids ls (Pr.up nx i v) := by
  unfold Lr
  rw [← fvals_set2 ids ls nx v hi, World.setCell, Array.getElem?_modify, if_pos rfl, show w.heap[K]? = _ from h]
  simp
end
theorem Try.infoLk : (Try.prog.info? 92).map (fun i => (i.zero, i.size, i.bytes)) = some (some (.agg #[.int .i64 0, .int .i64 0, .int .i64 0]), 3, 24) := by kernel_rfl
theorem made_links (n : Nat) : madeCells (Value.agg #[.int .i64 0, .int .i64 0, .int .i64 0]).cells (n * 3) = (fvals (fun _ => 0) (fun _ => 0) (fun _ => 0) n).toArray := by
  apply Array.ext_getElem?
  intro j
  by_cases hj : j < n * 3
  · obtain ⟨q, r, hr, rfl⟩ : ∃ q r, r < 3 ∧ j = q * 3 + r := ⟨j / 3, j % 3, by omega, by omega⟩
    have hq : q < n := by omega
    obtain ⟨a0, a1, a2⟩ := fvals_get (fun _ => 0) (fun _ => 0) (fun _ => 0) n q hq
    have hm : (q * 3 + r) % 3 = r := by omega
    have hs : (Value.agg #[Value.int .i64 0, .int .i64 0, .int .i64 0]).cells = #[.int .i64 0, .int .i64 0, .int .i64 0] := rfl
    have hc : (madeCells (Value.agg #[Value.int .i64 0, .int .i64 0, .int .i64 0]).cells (n * 3))[q * 3 + r]? = some ((#[Value.int .i64 0, .int .i64 0, .int .i64 0] : Array Value)[r]!) := by
      rw [hs]
      unfold madeCells
      rw [Array.getElem?_map, Array.getElem?_range, if_pos hj]
      show some ((#[Value.int .i64 0, .int .i64 0, .int .i64 0] : Array Value)[(q * 3 + r) % 3]!) = _
      rw [hm]
    rw [hc, List.getElem?_toArray]
    obtain rfl | rfl | rfl : r = 0 ∨ r = 1 ∨ r = 2 := by omega
    · exact a0.symm
    · exact a1.symm
    · exact a2.symm
  · exact (Array.getElem?_eq_none (by rw [size_madeCells]; omega)).trans (Array.getElem?_eq_none (by rw [List.size_toArray, fvals_length]; omega)).symm
theorem run_make_links (w : World) (n : Nat) (hn : n ≤ 1048576) : (Instr.makeSlice 65 (.int .i64 (n : Int)) (.int .i64 (n : Int))).run Try.prog w = .ok (.slice (some ⟨w.heap.size, 0, none⟩) n n) (w.alloc (.cells (fvals (fun _ => 0) (fun _ => 0) (fun _ => 0) n).toArray 92)) := by
  obtain ⟨i0, hi, hz0, hz1, hz2⟩ := info_parts Try.infoLk
  have hr := run_make (P := Try.prog) w 65 92 i0 _ Try.underlying65 hi hz0 .i64 .i64 n n (by omega) (Int.le_refl _) (by rw [hz2]; omega) (by omega)
  simp only [Int.toNat_natCast, hz1] at hr
  rw [hr, made_links]

/-! ### What is being merged -/
structure Rm (w0 w : World) (R K O M D N : Nat) (v : Value) (l : List Ent) (ms : List Mg4) (ids ls nx : Nat → Int) : Prop where
  blk : Bx3 w R 68 (.slice (some ⟨K, 0, none⟩) N N) (fv D) (.pointer (some ⟨O, 0, none⟩))
  row : Lr w K N ids ls nx
  q : Sq w0 w O M v l (fun k => k = R ∨ k = K)
  t : TbIn w0 D ms
  wf : ∀ i, i < N → (Lit.int .i64 (ids i)).wf = true
  pb : ∀ x ∈ l, 0 ≤ x.1 ∧ x.1 < (N : Int)
  N9 : N ≤ 9000
  hK : w0.heap.size ≤ K
  ne : R ≠ K
def RmOut (w0 w' : World) (R K O M D N : Nat) (l : List Ent) (ms : List Mg4) (ids ls nx : Nat → Int) : Prop := ∃ v, Rm w0 w' R K O M D N v l ms ids ls nx
section
variable {w0 w w' : World} {R K O M D N : Nat} {v : Value} {l l' : List Ent} {ms : List Mg4} {ids ls nx : Nat → Int}
theorem Rm.below (h : Rm w0 w R K O M D N v l ms ids ls nx) (hb : Below w.heap.size w w') : Rm w0 w' R K O M D N v l ms ids ls nx :=
  ⟨h.blk.below hb h.blk.lt, (hb.block K h.row.lt).trans h.row, h.q.grow hb (fun k hk => .inl hk), h.t, h.wf, h.pb, h.N9, h.hK, h.ne⟩
theorem Rm.drew (h : Rm w0 w R K O M D N v l ms ids ls nx) : Rm w0 w.drew R K O M D N v l ms ids ls nx := h.below (Below.refl _ _).drew
theorem Rm.alloc (h : Rm w0 w R K O M D N v l ms ids ls nx) (o : Obj) : Rm w0 (w.alloc o) R K O M D N v l ms ids ls nx := h.below ((Below.refl _ _).alloc (Nat.le_refl _) o)
theorem Rm.step (h : Rm w0 w R K O M D N v l ms ids ls nx) (o : SOut w0 O M v l' (fun k => k = R ∨ k = K) w w') (hp : ∀ x ∈ l', x ∈ l ∨ (0 ≤ x.1 ∧ x.1 < (N : Int))) : RmOut w0 w' R K O M D N l' ms ids ls nx := by
  obtain ⟨v', q, hk, m⟩ := o
  exact ⟨v', (hk R (.inl rfl)).trans h.blk, (hk K (.inr rfl)).trans h.row, q, h.t, h.wf, fun x hx => (hp x hx).elim (h.pb x) id, h.N9, h.hK, h.ne⟩
theorem Rm.len (h : Rm w0 w R K O M D N v l ms ids ls nx) : l.length ≤ 9000 := Nat.le_trans (Pr.dis_len N h.q.q.dis h.pb) h.N9
theorem Rm.set0 (h : Rm w0 w R K O M D N v l ms ids ls nx) {i : Nat} (hi : i < N) (x : Int) (hx : (Lit.int .i64 x).wf = true) : Rm w0 (w.setCell ⟨K, i * 3, none⟩ (.int .i64 x)) R K O M D N v l ms (Pr.up ids i x) ls nx :=
  ⟨h.blk.other h.ne _, h.row.set0 hi x, h.q.keep (S := fun k => k = K) (Mut.set w K (i * 3) _ rfl) (fun k e => .inr e) (fun k e => by rw [e]; exact h.hK), h.t, fun k hk => by
    by_cases e : k = i
    · rw [e, Pr.up_at]; exact hx
    · rw [Pr.up_ne _ e]; exact h.wf k hk, h.pb, h.N9, h.hK, h.ne⟩
theorem Rm.set1 (h : Rm w0 w R K O M D N v l ms ids ls nx) {i : Nat} (hi : i < N) (x : Int) : Rm w0 (w.setCell ⟨K, i * 3 + 1, none⟩ (.int .i64 x)) R K O M D N v l ms ids (Pr.up ls i x) nx :=
  ⟨h.blk.other h.ne _, h.row.set1 hi x, h.q.keep (S := fun k => k = K) (Mut.set w K (i * 3 + 1) _ rfl) (fun k e => .inr e) (fun k e => by rw [e]; exact h.hK), h.t, h.wf, h.pb, h.N9, h.hK, h.ne⟩
theorem Rm.set2 (h : Rm w0 w R K O M D N v l ms ids ls nx) {i : Nat} (hi : i < N) (x : Int) : Rm w0 (w.setCell ⟨K, i * 3 + 2, none⟩ (.int .i64 x)) R K O M D N v l ms ids ls (Pr.up nx i x) :=
  ⟨h.blk.other h.ne _, h.row.set2 hi x, h.q.keep (S := fun k => k = K) (Mut.set w K (i * 3 + 2) _ rfl) (fun k e => .inr e) (fun k e => by rw [e]; exact h.hK), h.t, h.wf, h.pb, h.N9, h.hK, h.ne⟩
theorem Rm.find (h : Rm w0 w R K O M D N v l ms ids ls nx) : TbIn w D ms := h.t.below h.q.below
theorem Rm.f1 (h : Rm w0 w R K O M D N v l ms ids ls nx) : w.cell? ⟨R, 1, none⟩ = some (.func (.func 25) #[.pointer (some ⟨D, 0, none⟩)] #[]) := h.blk.cell1
theorem key_wf {p : Int} (h : 0 ≤ p ∧ p ≤ 100000) : (key p).wf = true := WalkArith.wf_i64 (by omega)
end
end Go.Proofs.Ytcjakjmhghoilaa
