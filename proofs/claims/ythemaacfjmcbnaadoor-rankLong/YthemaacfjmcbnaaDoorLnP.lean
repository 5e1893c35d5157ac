/-
  The walk of line.parts and of the function that it answers: which pieces are handed out.
-/
import Derived.Test.YthemaacfjmcbnaaDoorChecked
import Derived.Test.YthemaacfjmcbnaaDoorTs
import Derived.Test.YthemaacfjmcbnaaDoorLnMath
import Derived.RangeFuncNested
import Derived.RangeFuncBound
import Derived.RangeFuncCalls
import Derived.RangeFuncLeaves
import Derived.RangeFuncBox
import Derived.Shelf.Abstract
import Derived.Shelf.RegionOpen
import Derived.WalkKit
import Derived.OwnWalkIn
import Derived.TacticsInMore
import Derived.LoopNIn
import Derived.LoopIn
import Derived.Lib.Agree
namespace Go.Proofs.YthemaacfjmcbnaaDoor
open Go.RowKit Go.Shelf
set_option linter.unusedVariables false
attribute [local go_sem] Oper.semAt_some

/-! ### Pieces by places -/
/-- The pieces from place i on, what stands from fr up to i being part of the first one. -/
def rest (c : UInt8) (s : ByteArray) (fr i : Nat) : List ByteArray := (Ln.pcs c (((by_ s).take i).drop fr) ((by_ s).drop i)).map mk
/-- All of them. -/
def ps (c : UInt8) (s : ByteArray) : List ByteArray := (Ln.pcs c [] (by_ s)).map mk
theorem rest_zero (c : UInt8) (s : ByteArray) : rest c s 0 0 = ps c s := by simp [rest, ps]
theorem mk_extract (s : ByteArray) (i j : Nat) : mk (((by_ s).take j).drop i) = s.extract i j := by rw [← by_extract, mk_by]
theorem rest_done (c : UInt8) (s : ByteArray) (fr : Nat) : rest c s fr s.size = [s.extract fr s.size] := by
  unfold rest
  rw [show (by_ s).drop s.size = [] from List.drop_eq_nil_of_le (by rw [by_length]; exact Nat.le_refl _), Ln.pcs_nil, List.map_cons, List.map_nil, mk_extract]
theorem rest_hit {c : UInt8} {s : ByteArray} {fr i : Nat} (hi : i < s.size) (h : bytesF s i = c.toNat) : rest c s fr i = s.extract fr i :: rest c s (i + 1) (i + 1) := by
  obtain ⟨x, e, hx, _⟩ := by_get hi
  obtain rfl : x = c := UInt8.toNat_inj.1 (by omega)
  unfold rest
  rw [e, Ln.pcs_hit, List.map_cons, mk_extract, List.drop_take_self]
theorem rest_miss {c : UInt8} {s : ByteArray} {fr i : Nat} (hi : i < s.size) (hf : fr ≤ i) (h : bytesF s i ≠ c.toNat) : rest c s fr i = rest c s fr (i + 1) := by
  obtain ⟨x, e, hx, hx2⟩ := by_get hi
  have hne : x ≠ c := by rintro rfl; omega
  unfold rest
  rw [e, Ln.pcs_miss hne]
  congr 2
  rw [List.take_add_one, hx2, List.drop_append_of_le_length (by rw [List.length_take, by_length]; omega)]
  rfl
theorem ext_step (s : ByteArray) {fr i : Nat} (hi : i < s.size) (hf : fr ≤ i) : s.extract fr i ++ s.extract i (i + 1) = s.extract fr (i + 1) := by
  apply by_inj
  rw [by_append, by_extract, by_extract, by_extract]
  obtain ⟨x, e, hx, hx2⟩ := by_get hi
  rw [List.take_add_one, hx2, List.drop_append_of_le_length (by rw [List.length_take, by_length]; omega), List.drop_append_of_le_length (by rw [List.length_take, by_length]; omega), List.drop_take_self]
  rfl
theorem ext_none (s : ByteArray) (i : Nat) : s.extract i i = ⟨#[]⟩ := by
  apply by_inj
  rw [by_extract, List.drop_take_self]
  rfl

theorem grown_drew (w : World) : w.grownBy w.drew none := ⟨rfl, rfl, rfl, Nat.le_refl _, fun _ _ _ => rfl⟩
/-- Two boxes lie as they lay. -/
def Kept (Bs Bc : Nat) (W W' : World) : Prop := W'.heap[Bs]? = W.heap[Bs]? ∧ W'.heap[Bc]? = W.heap[Bc]?
theorem kept_t {Bs Bc : Nat} {A B C : World} (h : Kept Bs Bc A B) (k : Kept Bs Bc B C) : Kept Bs Bc A C := ⟨k.1.trans h.1, k.2.trans h.2⟩
theorem kept_b {Bs Bc : Nat} {w : World} (h1 : Bs < w.heap.size) (h2 : Bc < w.heap.size) (W : World) (l : Nat) (o o' : Obj) (hl : w.heap.size ≤ l) (h : W.heap[l]? = some o) (_ : o.isCells = false) (_ : o.isWalk = false) : Kept Bs Bc W (W.putObj l o') :=
  ⟨World.putObj_heap_other (by omega), World.putObj_heap_other (by omega)⟩

set_option maxHeartbeats 1000000 in
theorem parts_in (n : Nat) (s : ByteArray) (c : Int) (w : World) :
    CallsIn Fence.wide n Tryd.prog 30 #[.string s, .int .u8 c] w fun e w' => e = .returned (.func (.func 39) #[] #[.pointer (some ⟨w.heap.size, 0, none⟩), .pointer (some ⟨w.heap.size + 1, 0, none⟩)]) ∧ w' = (w.alloc (.cells #[.string s] 9)).alloc (.cells #[.int .u8 c] 5) := by
  refine callsIn_of_wp Tryd.func30 rfl trivial ?_ rfl
  simp only [Tryd.ntmps30, List.size_toArray, List.length_cons, List.length_nil, Nat.reduceAdd, Nat.reduceSub, Array.replicate_succ, Array.replicate_zero, List.push_toArray, List.append_toArray, List.nil_append, List.cons_append]
  gi_wp2
  go_ret
  exact ⟨rfl, rfl⟩

set_option maxRecDepth 100000 in
set_option maxHeartbeats 2000000 in
theorem parts1_in (n : Nat) (hn : 1 ≤ n) (l Bs Bc : Nat) (s : ByteArray) (c : UInt8) (ci : Int) (hci : ci = c.toNat) (hsz : s.size ≤ 1048576) (J Jx : List ByteArray → World → Prop) (hJd : ∀ pre W, J pre W → J pre W.drew)
    (hY : ∀ pre x W, J pre W → pre.length < (ps c s).length → YieldAt Fence.wide (n - 1) Tryd.prog l #[.string x] W fun e W' =>
      (e = .returned (.bool true) ∧ J (pre ++ [x]) W' ∧ Kept Bs Bc W W') ∨ (e = .returned (.bool false) ∧ Jx (pre ++ [x]) W'))
    (W : World) (hBs : Boxed W Bs 9 (.string s)) (hBc : Boxed W Bc 5 (.int .u8 ci)) (h0 : J [] W) :
    CallsIn Fence.wide n Tryd.prog 39 #[.func (.yield l) #[] #[], .pointer (some ⟨Bs, 0, none⟩), .pointer (some ⟨Bc, 0, none⟩)] W fun e W' => (∃ v, e = .returned v) ∧
      ((∃ ys, ys = ps c s ∧ J ys W') ∨ (∃ pre, pre <+: ps c s ∧ Jx pre W')) := by
  have hS := St.any s
  obtain ⟨hs1, hget, hbd⟩ := hS
  obtain ⟨N, hN⟩ : ∃ N, s.size = N := ⟨_, rfl⟩
  obtain ⟨f, hf⟩ : ∃ f, bytesF s = f := ⟨_, rfl⟩
  rw [hf] at hget hbd
  have HF := hid hf
  have HBD := hid hbd
  clear hf hbd hs1
  have q1 := hBs.cell
  refine callsIn_of_wp Tryd.func39 rfl trivial ?_ rfl
  simp only [Tryd.ntmps39, List.size_toArray, List.length_cons, List.length_nil, Nat.reduceAdd, Nat.reduceSub, Array.replicate_succ, Array.replicate_zero, List.push_toArray, List.append_toArray, List.nil_append, List.cons_append]
  gi_wp2
  gi_loopw [4, 8] (fun fv iv wr => ∃ (pre : List ByteArray) (fr i : Nat), fv = .int .i64 fr ∧ iv = .int .i64 i ∧ fr ≤ i ∧ i ≤ N ∧ Hid (ps c s = pre ++ rest c s fr i) ∧ Boxed wr Bs 9 (.string s) ∧ Boxed wr Bc 5 (.int .u8 ci) ∧ Hid (J pre wr))
    (fun _ iv _ => N - (Lib.intOf iv).toNat)
  case atStart => exact ⟨[], 0, 0, rfl, rfl, by omega, by omega, hid (by rw [rest_zero]; rfl), hBs, hBc, hid h0⟩
  case round =>
    obtain ⟨pre, fr, i, rfl, rfl, hfi, hiN, HP, b1, b2, HJ⟩ := hrel
    have q1 := b1.cell
    have q2 := b2.cell
    have hdN : (fr : Int) ≤ N := by omega
    have k00 : (0 : Int) ≤ fr := by omega
    by_cases hlt : i < N
    · have k0 : (0 : Int) ≤ i := by omega
      have k1 : (i : Int) < N := by omega
      have k2 : (i : Int) ≤ N := by omega
      have k3 : (fr : Int) ≤ i := by omega
      have k4 : ¬ (i : Int) < fr := by omega
      have e2 : IntKind.i64.wrap ((i : Int) + 1) = i + 1 := i64_in (by omega) (by omega)
      by_cases hc : f i = ci
      · have HE := hid (rest_hit (fr := fr) (show i < s.size by omega) (by rw [HF.out, hc, hci]))
        have hl : pre.length < (ps c s).length := by rw [HP.out, HE.out]; simp
        obtain ⟨fn, tmps, assign, body, hy, hR⟩ := hY pre (s.extract fr i) wr.drew (hJd _ _ HJ.out) hl
        gi_wp2
        gi_region
        gi_wp2
        refine hR.mono ?_
        rintro e W3 (⟨rfl, hJ3, hk3⟩ | ⟨rfl, hJx3⟩)
        · have b13 : Boxed W3 Bs 9 (.string s) := hk3.1.trans b1
          have b23 : Boxed W3 Bc 5 (.int .u8 ci) := hk3.2.trans b2
          gi_wp2
          go_roundw
          case rel => exact ⟨pre ++ [s.extract fr i], i + 1, i + 1, by go_num, by go_num, Nat.le_refl _, by omega, hid (by rw [HP.out, HE.out]; simp), b13, b23, hid hJ3⟩
          case measure => simp [Lib.intOf]; omega
        · gi_wp2
          refine bodyPost_ret (results_none rfl _ _ _) rfl ?_
          exact ⟨⟨_, rfl⟩, .inr ⟨pre ++ [s.extract fr i], ⟨rest c s (i + 1) (i + 1), by rw [HP.out, HE.out]; simp⟩, hJx3⟩⟩
      · have HE := hid (rest_miss (show i < s.size by omega) hfi (by rw [HF.out, ← hci]; exact hc))
        have hJ3 := hJd _ _ HJ.out
        gi_wp2
        gi_region
        gi_wp2
        go_roundw
        case rel => exact ⟨pre, fr, i + 1, rfl, by go_num, by omega, by omega, hid (by rw [HP.out, HE.out]), b1, b2, hid hJ3⟩
        case measure => simp [Lib.intOf]; omega
    · obtain rfl : i = N := by omega
      have k1 : ¬ (i : Int) < i := by omega
      have HE := hid (show rest c s fr i = [s.extract fr i] by rw [← hN]; exact rest_done c s fr)
      have hl : pre.length < (ps c s).length := by rw [HP.out, HE.out]; simp
      obtain ⟨fn, tmps, assign, body, hy, hR⟩ := hY pre (s.extract fr i) wr HJ.out hl
      gi_wp2
      refine hR.mono ?_
      rintro e W3 (⟨rfl, hJ3, hk3⟩ | ⟨rfl, hJx3⟩)
      · gi_wp2
        go_end0
        exact ⟨⟨_, rfl⟩, .inl ⟨pre ++ [s.extract fr i], by rw [HP.out, HE.out], hJ3⟩⟩
      · gi_wp2
        go_end0
        exact ⟨⟨_, rfl⟩, .inr ⟨pre ++ [s.extract fr i], by rw [HP.out, HE.out]; exact List.prefix_refl _, hJx3⟩⟩

/-- What parts answers hands out the pieces, in order, as long as it is wanted. -/
theorem parts_stops (n : Nat) (hn : 1 ≤ n) (Bs Bc : Nat) (s : ByteArray) (c : UInt8) (ci : Int) (hci : ci = c.toNat) (hsz : s.size ≤ 1048576) (w : World) (hBs : Boxed w Bs 9 (.string s)) (hBc : Boxed w Bc 5 (.int .u8 ci)) :
    SeqStopsK Fence.wide n Tryd.prog 39 #[.pointer (some ⟨Bs, 0, none⟩), .pointer (some ⟨Bc, 0, none⟩)] (fun x : ByteArray => #[Value.string x]) (Kept Bs Bc) (fun ys => ys = ps c s) (fun pre => pre <+: ps c s) (ps c s).length w := fun l J Jx W hW hJ _ hY h0 =>
  parts1_in n hn l Bs Bc s c ci hci hsz J Jx (fun pre A hA => hJ pre A A.drew none hA (grown_drew A) (fun r e => by cases e)) hY W ((hW.block Bs hBs.lt).trans hBs) ((hW.block Bc hBc.lt).trans hBc) h0
end Go.Proofs.YthemaacfjmcbnaaDoor
