/-
  The walk of split.runs and of the function that it answers: which runs are handed out.
-/
import Derived.Test.YtiheagkgpbkkfaaDoorSpPa
import Derived.Test.YtiheagkgpbkkfaaDoorLnA
import Derived.Test.YtiheagkgpbkkfaaDoorRdReg
namespace Go.Proofs.YtiheagkgpbkkfaaDoor
open Go.RowKit Go.Shelf
set_option linter.unusedVariables false
attribute [local go_sem] Oper.semAt_some
open Pr (it)
theorem src_u8 {w : World} (x : Int) (t : TypeId) : Src (w.alloc (.cells #[.int .u8 x] t)) (some ⟨w.heap.size, 0, none⟩) 1 1 1 [.int .u8 x] :=
  Src.new #[.int .u8 x] t w.heap.size rfl rfl (fun u hu => by simp at hu; subst hu; rfl)
theorem vals_succ (f : Nat → Int) (n : Nat) : vals f (n + 1) = vals f n ++ [.int .u8 (f n)] := by simp [vals, List.range_succ]
/-- A run in memory, at a text's place s, and the place that comes next: behind its mark, or behind the text. -/
def RunAt (xs : List Int) (s : Nat) (x : Array Value) (t : Nat) (A : World) : Prop :=
  ∃ (ba : Option Addr) (bc m : Nat), m = Sp.rl (xs.drop s) ∧ Sl A ba m bc (Sp.fn (Sp.run (xs.drop s))) ∧
    ((s + m < xs.length ∧ x = #[.slice ba m bc, .bool true] ∧ t = s + m + 1) ∨ (s + m = xs.length ∧ x = #[.slice ba m bc, .bool false] ∧ t = xs.length + 1))
theorem runs_in (n : Nat) (a : Option Addr) (m c : Nat) (w : World) :
    CallsIn Fence.wide n Tryd.prog 22 #[.slice a m c] w fun e w' => e = .returned (.func (.func 28) #[] #[.pointer (some ⟨w.heap.size, 0, none⟩)]) ∧ w' = w.alloc (.cells #[.slice a m c] 23) := by
  refine callsIn_of_wp Tryd.func22 rfl trivial ?_ rfl
  simp only [Tryd.ntmps22, List.size_toArray, List.length_cons, List.length_nil, Nat.reduceAdd, Nat.reduceSub, Array.replicate_succ, Array.replicate_zero, List.push_toArray, List.append_toArray, List.nil_append, List.cons_append]
  gi_wp2
  go_ret
  exact ⟨rfl, rfl⟩
set_option maxRecDepth 100000 in
set_option maxHeartbeats 6400000 in
/-- What runs answers hands out the runs, in order. -/
theorem runs_hands (n : Nat) (hn : 1 ≤ n) (Bx : Nat) {a : Option Addr} {N c : Nat} {xs : List Int} {w0 w : World} (hX : Ir w0 a N c xs) (hN : N ≤ 100000) (h0 : Below w0.heap.size w0 w) (hB : Boxed w Bx 23 (.slice a N c)) :
    Hands Fence.wide n Tryd.prog 28 #[.pointer (some ⟨Bx, 0, none⟩)] (RunAt xs) (fun A B => Below w0.heap.size A B) 0 (N + 1) w := by
  intro l J W hW hJ hY hJ0
  obtain ⟨i0, hi0, hz0, hz1, hz2⟩ := info_parts Tryd.info8
  have hL := hX.len
  have HX := hid hX
  have bx : Boxed W Bx 23 (.slice a N c) := (hW.block Bx hB.lt).trans hB
  have q1 := bx.cell
  have hW0 := h0.trans (hW.mono h0.size)
  have b0 := Below.refl W.heap.size W
  refine callsIn_of_wp Tryd.func28 rfl trivial ?_ rfl
  simp only [Tryd.ntmps28, List.size_toArray, List.length_cons, List.length_nil, Nat.reduceAdd, Nat.reduceSub, Array.replicate_succ, Array.replicate_zero, List.push_toArray, List.append_toArray, List.nil_append, List.cons_append]
  gi_wp2
  gi_loopw [3, 8] (fun rv iv wr => ∃ (s q : Nat) (A : World), iv = .int .i64 ((s + q : Nat) : Int) ∧ s + q ≤ N ∧ q ≤ Sp.rl (xs.drop s) ∧ Hid (J s A) ∧ Hid (Below A.heap.size A wr) ∧ Hid (Below w0.heap.size w0 A) ∧ Hid (wr.ownsRow A.heap.size 5 1 rv q (vals (Sp.fn (Sp.run (xs.drop s))) q)))
    (fun _ iv _ => N - (intOf iv).toNat)
  case atStart => exact ⟨0, 0, W, rfl, by omega, Nat.zero_le _, hid hJ0, hid b0, hid hW0, hid (World.ownsRow_nil W _ _ _)⟩
  case round =>
    obtain ⟨s, q, A, rfl, hsN, hq, HJ, HA, H0, HO⟩ := hrel
    have BD := hid (Sp.run_bd (xs.drop s))
    have hAw := HA.out.size
    have h0A := H0.out.size
    by_cases hlt : s + q < N
    · have k1 : ((s + q : Nat) : Int) < N := by omega
      have k0 : (0 : Int) ≤ ((s + q : Nat) : Int) := by omega
      have e2 : IntKind.i64.wrap (((s + q : Nat) : Int) + 1) = ((s + q + 1 : Nat) : Int) := by rw [i64_in (by omega) (by omega)]; omega
      obtain ⟨b, off, rfl, hbl, hc⟩ := (HX.out.below (H0.out.trans (HA.out.mono h0A))).at' (by omega)
      have p0 := hc (s + q) hlt
      have nx := Sp.rl_next (l := xs.drop s) hq (by rw [List.length_drop, hL]; omega)
      rw [Pr.it_drop] at nx
      obtain ⟨x, hx⟩ : ∃ x, it xs (s + q) = x := ⟨_, rfl⟩
      rw [hx] at p0 nx
      have HXX := hid hx
      clear hc hx
      cases hb : Sp.isB x with
      | true =>
        rw [hb, if_pos rfl] at nx
        have hbd := Sp.isB_iff.1 hb
        have e3 : IntKind.u8.wrap x = x := u8_sp hbd.1 hbd.2
        have ex : Sp.fn (Sp.run (xs.drop s)) q = x := by rw [Sp.run_it nx, Pr.it_drop, HXX.out]
        have EX := hid ex
        have hcl := isMark_calls x wr
        rw [hb] at hcl
        have HCL := hid hcl
        clear hb ex hcl hbd
        gi_wp2_with fail
        refine ⟨trivial, ?_⟩
        refine (callsIn_wide.2 HCL.out).mono ?_
        rintro e w2 ⟨rfl, rfl⟩
        gi_wp2_with (gi_at_builtin; refine wpListIn_append_src rfl _ _ 37 rfl A.heap.size 5 i0 _ 1 1 Tryd.underlying37 hi0 hz0 hz1 hz2 rfl (by decide) _ _ _ rfl (HO.out.alloc _) (some ⟨w2.heap.size, 0, none⟩) 1 1 [.int .u8 x] rfl (src_u8 x _) (by unfold maxLen; omega) (by omega) (by simp; omega) ?_; intro v4 w4 ho4 hg4 hb4)
        have HA4 := hid ((HA.out.alloc hAw (.cells #[.int .u8 x] 5)).grown hg4 (by simp; omega) (fun k hk => (HO.out.lt k hk).1))
        have O5 := hid (show w4.ownsRow A.heap.size 5 1 v4 (q + 1) (vals (Sp.fn (Sp.run (xs.drop s))) (q + 1)) from by rw [vals_succ, EX.out]; exact ho4)
        clear ho4 hg4 hb4
        gi_wp2_with fail
        go_roundw
        case rel => exact ⟨s, q + 1, A, by go_num, by omega, by omega, HJ, HA4, H0, O5⟩
        case measure => simp [intOf]; omega
      | false =>
        rw [hb, if_neg (by decide)] at nx
        obtain ⟨ba, bc, rfl, hs5⟩ := Sl.own HO.out BD.out
        obtain ⟨fn, tmps, assign, body, hy, hR⟩ := hY s #[.slice ba q bc, .bool true] (s + q + 1) wr (hJ _ _ _ HJ.out HA.out) ⟨ba, bc, q, nx, hs5, .inl ⟨by rw [hL]; exact hlt, rfl, rfl⟩⟩
        have hcl := isMark_calls x wr
        rw [hb] at hcl
        have HCL := hid hcl
        have HR := hid hR
        clear hb hcl hs5 nx hR
        gi_wp2_with fail
        refine ⟨trivial, ?_⟩
        refine (callsIn_wide.2 HCL.out).mono ?_
        rintro e w2 ⟨rfl, rfl⟩
        gi_wp2_with fail
        refine HR.out.mono ?_
        rintro e W3 ⟨rfl, hJ3, hk3⟩
        have H3 := hid ((H0.out.trans (HA.out.mono h0A)).trans hk3)
        have J3 := hid hJ3
        have R3 := hid (Below.refl W3.heap.size W3)
        have O3 := hid (World.ownsRow_nil W3 W3.heap.size 5 1)
        clear hJ3 hk3
        gi_wp2_with fail
        go_roundw
        case rel => exact ⟨s + q + 1, 0, W3, by go_num, by omega, Nat.zero_le _, J3, R3, H3, O3⟩
        case measure => simp [intOf]; omega
    · have k1 : ¬ ((s + q : Nat) : Int) < N := by omega
      have hrl := Sp.rl_le (xs.drop s)
      rw [List.length_drop, hL] at hrl
      obtain ⟨ba, bc, rfl, hs5⟩ := Sl.own HO.out BD.out
      obtain ⟨fn, tmps, assign, body, hy, hR⟩ := hY s #[.slice ba q bc, .bool false] (N + 1) wr (hJ _ _ _ HJ.out HA.out) ⟨ba, bc, q, by omega, hs5, .inr ⟨by omega, rfl, by rw [hL]⟩⟩
      have HR := hid hR
      clear hs5 hR
      gi_wp2_with fail
      refine HR.out.mono ?_
      rintro e W3 ⟨rfl, hJ3, hk3⟩
      gi_wp2_with fail
      go_end0
      exact ⟨⟨_, rfl⟩, hJ3⟩
end Go.Proofs.YtiheagkgpbkkfaaDoor
