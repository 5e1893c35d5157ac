/-
  The reference's Next.
-/
import Derived.Test.YtiheagkgpbkkfaaDoorScNxV
import Derived.Test.YtiheagkgpbkkfaaDoorScR8
namespace Go.Proofs.YtiheagkgpbkkfaaDoor
open Go.RowKit
set_option linter.unusedVariables false
/-- A struct of two numbers in a block. -/
def Ax (W : World) (b : Nat) (x y : Value) : Prop := W.heap[b]? = some (.cells #[x, y] 64 (0, 0))
theorem Ax.lt {W : World} {b : Nat} {x y : Value} (h : Ax W b x y) : b < W.heap.size := (Array.getElem?_eq_some_iff.1 h).1
theorem Ax.c0 {W : World} {b : Nat} {x y : Value} (h : Ax W b x y) : W.cell? ⟨b, 0, none⟩ = some x := by simp [World.cell?, show W.heap[b]? = _ from h]
theorem Ax.c1 {W : World} {b : Nat} {x y : Value} (h : Ax W b x y) : W.cell? ⟨b, 1, none⟩ = some y := by simp [World.cell?, show W.heap[b]? = _ from h]
theorem Ax.fr {W : World} {b : Nat} {x y : Value} (h : Ax W b x y) (j : Nat) : W.frozen? ⟨b, j, none⟩ = false := by simp [World.frozen?, show W.heap[b]? = _ from h]
theorem Ax.below {W W' : World} {b n : Nat} {x y : Value} (h : Ax W b x y) (hb : Below n W W') (hn : b < n) : Ax W' b x y := (hb.block b hn).trans h
theorem Ax.set0 {W : World} {b : Nat} {x y : Value} (h : Ax W b x y) (v : Value) : Ax (W.setCell ⟨b, 0, none⟩ v) b v y := by
  obtain ⟨hlt, hk⟩ := Array.getElem?_eq_some_iff.1 h
  show (W.heap.modify b _)[b]? = _
  rw [Array.getElem?_eq_getElem (by rw [Array.size_modify]; exact hlt), Array.getElem_modify_self, hk]
  rfl
theorem Ax.set1 {W : World} {b : Nat} {x y : Value} (h : Ax W b x y) (v : Value) : Ax (W.setCell ⟨b, 1, none⟩ v) b x v := by
  obtain ⟨hlt, hk⟩ := Array.getElem?_eq_some_iff.1 h
  show (W.heap.modify b _)[b]? = _
  rw [Array.getElem?_eq_getElem (by rw [Array.size_modify]; exact hlt), Array.getElem_modify_self, hk]
  rfl
set_option maxRecDepth 100000 in
set_option maxHeartbeats 3200000 in
theorem rnx_none {w : World} {s : ByteArray} {ta : Option Addr} {tn tc n : Nat} {L H C f : Nat → Int} (kind : Int) (hS : St s n f) (T : Rs w ta tn tc L H C) (fin : Bool) (h0 : n = 0 ∨ ¬ (kind = 0 ∨ kind = 1 ∨ kind = 2 ∨ kind = 3) ∨ Cl.may L H C tn = false) :
    Calls Tryd.prog 25 #[.int .i64 kind, .slice ta tn tc, .string s, .bool fin] w fun e w' => e = .returned (NX (Sc.nx (Cl.of L H C tn) (Cl.may L H C tn) kind f n fin)) ∧ Below w.heap.size w w' := by
  have HN := hid (show Sc.nx (Cl.of L H C tn) (Cl.may L H C tn) kind f n fin = (0, false) by
    rcases h0 with h | h | h
    · exact Sc.nx_none (.inl h)
    · exact Sc.nx_odd h
    · exact Sc.nx_none (.inr h))
  have HT := hid T
  have HS := hid hS
  clear T hS
  by_cases hn : n = 0
  · subst hn
    have hne := HS.out.isEmpty_yes
    clear h0
    go_enter Tryd.func25, Tryd.ntmps25
    go_wp2_with fail
    go_ret2
    exact ⟨by rw [HN.out]; rfl, Below.refl _ _⟩
  · have hne := HS.out.isEmpty_no (by omega)
    have h0 := h0.resolve_left hn
    by_cases hk0 : kind < 0
    · clear h0
      go_enter Tryd.func25, Tryd.ntmps25
      go_wp2_with fail
      go_ret2
      exact ⟨by rw [HN.out]; rfl, Below.refl _ _⟩
    by_cases hk3 : 3 < kind
    · clear h0
      go_enter Tryd.func25, Tryd.ntmps25
      go_wp2_with fail
      go_ret2
      exact ⟨by rw [HN.out]; rfl, Below.refl _ _⟩
    have hm : Cl.may L H C tn = false := h0.resolve_left (fun h => h (by omega))
    clear h0
    go_enter Tryd.func25, Tryd.ntmps25
    go_wp2_with fail
    refine (rmay_calls ta tn tc L H C _ HT.out).mono ?_
    rintro e w1 ⟨rfl, b1⟩
    rw [hm]
    have HB := hid b1
    clear b1 hm
    go_wp2_with fail
    go_ret2
    exact ⟨by rw [HN.out]; rfl, HB.out⟩
set_option maxRecDepth 100000 in
set_option maxHeartbeats 3200000 in
theorem rnx_zero {w : World} {s : ByteArray} {ta : Option Addr} {tn tc n : Nat} {L H C f : Nat → Int} (hS : St s n f) (T : Rs w ta tn tc L H C) (fin : Bool) (hn : 0 < n) (hm : Cl.may L H C tn = true) :
    Calls Tryd.prog 25 #[.int .i64 0, .slice ta tn tc, .string s, .bool fin] w fun e w' => e = .returned (NX (Sc.nx (Cl.of L H C tn) (Cl.may L H C tn) 0 f n fin)) ∧ Below w.heap.size w w' := by
  have HN := hid (show Sc.nx (Cl.of L H C tn) (Cl.may L H C tn) 0 f n fin = (n, fin) from Sc.nx_zero (fun e => e.elim (by omega) (fun e => by rw [hm] at e; cases e)))
  have HT := hid T
  have hsz := hS.size
  have hne := hS.isEmpty_no hn
  clear T hS
  go_enter Tryd.func25, Tryd.ntmps25
  go_wp2_with fail
  refine (rmay_calls ta tn tc L H C _ HT.out).mono ?_
  rintro e w1 ⟨rfl, b1⟩
  rw [hm]
  have HB := hid b1
  clear b1 hm
  go_wp2_with fail
  go_ret2
  exact ⟨ret_nx (by rw [HN.out]) (by rw [HN.out]), HB.out⟩
theorem sm_step {f : Nat → Int} {n i : Nat} (h : i < (Utf.pts f n).length) : (Sc.sm f n i : Int) + Pr.it (ni (Sc.lens f n)) i = (Sc.sm f n (i + 1) : Nat) := by
  have hk : i < (Sc.lens f n).length := by rw [Sc.lens_len]; exact h
  have e1 : Pr.it (ni (Sc.lens f n)) i = ((Sc.lens f n)[i] : Nat) := by simp [Pr.it, ni, hk]
  have e2 : Sc.sm f n (i + 1) = Sc.sm f n i + (Sc.lens f n)[i] := by
    unfold Sc.sm
    rw [List.take_add_one, List.getElem?_eq_getElem hk, List.sum_append]
    simp
  rw [e1, e2]
  omega
set_option maxRecDepth 100000 in
set_option maxHeartbeats 3200000 in
theorem rnx_1 {w : World} {s : ByteArray} {ta : Option Addr} {tn tc n : Nat} {L H C f : Nat → Int} (hS : St s n f) (T : Rs w ta tn tc L H C) (fin : Bool) (hn : 0 < n) (hs : n ≤ 100000) (hm : Cl.may L H C tn = true) :
    Calls Tryd.prog 25 #[.int .i64 1, .slice ta tn tc, .string s, .bool fin] w fun e w' => e = .returned (NX (Sc.nx (Cl.of L H C tn) (Cl.may L H C tn) 1 f n fin)) ∧ Below w.heap.size w w' := by
  obtain ⟨cl, hcl⟩ : ∃ cl : Int → Int, cl = fun p => Cl.cls L H C p 0 tn := ⟨_, rfl⟩
  have hce : Cl.of L H C tn = cl := by rw [hcl]; funext p; unfold Cl.of; rw [hm]; rfl
  have hnx := Sc.nx_kind (cl := cl) (may := Cl.may L H C tn) (kind := 1) (f := f) (n := n) (fin := fin) (fun e => e.elim (by omega) (fun e => by rw [hm] at e; cases e)) (by decide)
  have hle := Sc.piece_le (cl := cl) (kind := 1) (Utf.pts f n)
  have hnext : Sc.next cl 1 f n = Sc.sm f n (Sc.piece cl 1 (Utf.pts f n)).1 := rfl
  rw [hnext] at hnx
  rw [Sc.piece_1] at hnx hle
  obtain ⟨q1, hq1⟩ : ∃ q, (Sc.word cl (Utf.pts f n)).1 = q := ⟨_, rfl⟩
  obtain ⟨q2, hq2⟩ : ∃ q, (Sc.word cl (Utf.pts f n)).2 = q := ⟨_, rfl⟩
  have HQ := hid (show av (Sc.word cl (Utf.pts f n)) = .agg #[.int .i64 (q1 : Int), .int .i64 (q2 : Int)] by unfold av; rw [hq1, hq2])
  have HDB := hid (show Sc.decB cl 1 (Sc.sure f n) (Utf.pts f n) = (decide (q2 ≤ Sc.sure f n) && (1 == 1 || !Sc.begun (1 == 3) (Sc.sure f n) (Utf.pts f n))) by unfold Sc.decB; rw [Sc.piece_1, hq2])
  rw [hq1] at hnx hle
  have HN := hid (show Sc.nx (Cl.of L H C tn) (Cl.may L H C tn) 1 f n fin = (Sc.sm f n q1, fin || Sc.decB cl 1 (Sc.sure f n) (Utf.pts f n)) by rw [hce]; exact hnx)
  have HT := hid T
  have HS := hid hS
  have hpl := Utf.pts_len n n f (Nat.le_refl _)
  have hp0 : 0 < (Utf.pts f n).length := by
    rcases Nat.eq_zero_or_pos (Utf.pts f n).length with h | h
    · exact absurd (List.length_eq_zero_iff.1 h) (Sc.pts_ne hn)
    · exact h
  have hsl := Sc.sure_le f n
  have hne := hS.isEmpty_no hn
  have HCl := hid hcl
  clear T hS hcl hce hnx hnext hq1 hq2
  go_enter Tryd.func25, Tryd.ntmps25
  go_wp2_with fail
  refine (rmay_calls ta tn tc L H C _ HT.out).mono ?_
  rintro e w1 ⟨rfl, b1⟩
  rw [hm]
  have T1 := hid (HT.out.below b1)
  have HB1 := hid b1
  clear b1 hm HT
  go_wp2_with fail
  refine (points_calls12 HS.out T1.out hs).mono ?_
  rintro e w2 ⟨v, rfl, L2, b2⟩
  rw [← HCl.out] at L2
  have HB2 := hid (HB1.out.trans (b2.mono HB1.out.size))
  obtain ⟨a1, n1, c1, a2, n2, c2, a3, n3, c3, rfl, i1, i2, i3⟩ := L2.ex
  clear b2 HB1 T1 i1 i2
  obtain ⟨SU, hSU⟩ : ∃ S, Sc.sure f n = S := ⟨_, rfl⟩
  have HSU := hid hSU
  rw [hSU] at L2 HDB hsl ⊢
  clear hSU
  have bl := (Below.refl w2.heap.size w2).alloc (Nat.le_refl _) (.cells #[.slice a1 n1 c1, .slice a2 n2 c2, .slice a3 n3 c3, .int .i64 (SU : Int)] 61)
  have L3 := hid (L2.below bl)
  have I3 := hid (i3.below bl)
  have X3 := hid (Bx4.new w2 61 (.slice a1 n1 c1) (.slice a2 n2 c2) (.slice a3 n3 c3) (.int .i64 (SU : Int)))
  have HB3 := hid (HB2.out.trans (bl.mono HB2.out.size))
  clear L2 i3 bl HB2
  have d0 := X3.out.cell0
  have d1 := X3.out.cell1
  have d2 := X3.out.cell2
  have d3 := X3.out.cell3
  go_wp2_with fail
  refine (word_calls L3.out).mono ?_
  rintro e w4 ⟨rfl, b4⟩
  rw [HQ.out]
  have L4 := hid (L3.out.below b4)
  have I4 := hid (I3.out.below b4)
  have X4 := hid (X3.out.below b4 X3.out.lt)
  have HB4 := hid (HB3.out.trans (b4.mono HB3.out.size))
  obtain ⟨K, hK⟩ : ∃ K, w2.heap.size = K := ⟨_, rfl⟩
  rw [hK] at X4 ⊢
  clear d0 d1 d2 d3 b4 L3 I3 X3 HB3
  have bA := (Below.refl w4.heap.size w4).alloc (Nat.le_refl _) (.cells #[.int .i64 (q1 : Int), .int .i64 (q2 : Int)] 64)
  have L5 := hid (L4.out.below bA)
  have I5 := hid (I4.out.below bA)
  have X5 := hid (X4.out.below bA X4.out.lt)
  have A5 := hid (show Ax (w4.alloc (.cells #[.int .i64 (q1 : Int), .int .i64 (q2 : Int)] 64)) w4.heap.size (.int .i64 (q1 : Int)) (.int .i64 (q2 : Int)) from heap_alloc_new w4 _)
  have HB5 := hid (HB4.out.trans (bA.mono HB4.out.size))
  clear L4 I4 X4 HB4 bA hK
  go_wp2_with fail
  obtain ⟨W, hW⟩ : ∃ W, w4.alloc (.cells #[.int .i64 (q1 : Int), .int .i64 (q2 : Int)] 64) = W := ⟨_, rfl⟩
  obtain ⟨A, hA⟩ : ∃ A, w4.heap.size = A := ⟨_, rfl⟩
  rw [hW] at L5 I5 X5 A5 HB5 ⊢
  rw [hA] at A5 ⊢
  clear hW hA
  go_loopg [12, 13] q1 (fun r nv iv wr => ∃ i : Nat, r = q1 - i ∧ nv = .int .i64 (Sc.sm f n i : Nat) ∧ iv = .int .i64 (i : Int) ∧ i ≤ q1 ∧ wr = W)
  case atStart => exact ⟨0, rfl, by rw [Sc.sm_zero]; rfl, rfl, by omega, rfl⟩
  case round =>
    obtain ⟨i, rfl, rfl, rfl, hi, rfl⟩ := hrel
    have d2 := X5.out.cell2
    have d3 := X5.out.cell3
    have d0 := X5.out.cell0
    have d1 := X5.out.cell1
    have a0 := A5.out.c0
    have a1' := A5.out.c1
    have e2 : IntKind.i64.wrap ((i : Int) + 1) = i + 1 := i64_in (by omega) (by omega)
    have e3 : IntKind.i64.wrap (i : Int) = i := i64_in (by omega) (by omega)
    by_cases hlt : i < q1
    · have hll := Sc.lens_len f n
      have hn3 := I5.out.len
      rw [List.length_map] at hn3
      obtain ⟨b, off, rfl, hbl, hc⟩ := I5.out.at' (by omega)
      have p0 := hc i (by omega)
      have hst := sm_step (f := f) (n := n) (i := i) (by omega)
      have hle2 := Sc.sm_le f n (i + 1)
      unfold ni at hst
      obtain ⟨y, hy⟩ : ∃ y, Pr.it ((Sc.lens f n).map (fun (k : Nat) => (k : Int))) i = y := ⟨_, rfl⟩
      rw [hy] at p0 hst
      have HST := hid hst
      have k1 : (i : Int) < q1 := by omega
      have k2 : (i : Int) < n3 := by omega
      have k3 : (0 : Int) ≤ i := by omega
      have e4 : IntKind.i64.wrap ((Sc.sm f n i : Int) + y) = ((Sc.sm f n (i + 1) : Nat) : Int) := by rw [← hst]; exact i64_in (by omega) (by omega)
      clear hc hy hst hn3
      go_wp2_with fail
      go_roundg (q1 - (i + 1))
      case measure => omega
      case rel => exact ⟨i + 1, rfl, rfl, by go_num, by omega, rfl⟩
    · obtain rfl : i = q1 := by omega
      have k1 : ¬ (i : Int) < i := by omega
      cases fin with
      | true =>
        go_wp2_with fail
        go_ret2
        exact ⟨ret_nx (by rw [HN.out]) (by rw [HN.out]; rfl), HB5.out⟩
      | false =>
        by_cases hq : q2 ≤ SU
        · have k4 : (q2 : Int) ≤ SU := by omega
          have HV := hid (show Sc.decB cl 1 SU (Utf.pts f n) = true by rw [HDB.out, decide_eq_true hq]; rfl)
          go_wp2_with fail
          go_ret2
          exact ⟨ret_nx (by rw [HN.out]) (by rw [HN.out, HSU.out, HV.out]; rfl), HB5.out⟩
        · have k4 : ¬ (q2 : Int) ≤ SU := by omega
          have HV := hid (show Sc.decB cl 1 SU (Utf.pts f n) = false by rw [HDB.out, decide_eq_false hq]; rfl)
          go_wp2_with fail
          go_ret2
          exact ⟨ret_nx (by rw [HN.out]) (by rw [HN.out, HSU.out, HV.out]; rfl), HB5.out⟩
set_option maxRecDepth 100000 in
set_option maxHeartbeats 3200000 in
theorem rnx_2 {w : World} {s : ByteArray} {ta : Option Addr} {tn tc n : Nat} {L H C f : Nat → Int} (hS : St s n f) (T : Rs w ta tn tc L H C) (fin : Bool) (hn : 0 < n) (hs : n ≤ 100000) (hm : Cl.may L H C tn = true) :
    Calls Tryd.prog 25 #[.int .i64 2, .slice ta tn tc, .string s, .bool fin] w fun e w' => e = .returned (NX (Sc.nx (Cl.of L H C tn) (Cl.may L H C tn) 2 f n fin)) ∧ Below w.heap.size w w' := by
  obtain ⟨cl, hcl⟩ : ∃ cl : Int → Int, cl = fun p => Cl.cls L H C p 0 tn := ⟨_, rfl⟩
  have hce : Cl.of L H C tn = cl := by rw [hcl]; funext p; unfold Cl.of; rw [hm]; rfl
  have hnx := Sc.nx_kind (cl := cl) (may := Cl.may L H C tn) (kind := 2) (f := f) (n := n) (fin := fin) (fun e => e.elim (by omega) (fun e => by rw [hm] at e; cases e)) (by decide)
  have hle := Sc.piece_le (cl := cl) (kind := 2) (Utf.pts f n)
  have hnext : Sc.next cl 2 f n = Sc.sm f n (Sc.piece cl 2 (Utf.pts f n)).1 := rfl
  rw [hnext] at hnx
  rw [Sc.piece_2] at hnx hle
  obtain ⟨q1, hq1⟩ : ∃ q, (Sc.plain cl (Utf.pts f n)).1 = q := ⟨_, rfl⟩
  obtain ⟨q2, hq2⟩ : ∃ q, (Sc.plain cl (Utf.pts f n)).2 = q := ⟨_, rfl⟩
  have HQ := hid (show av (Sc.plain cl (Utf.pts f n)) = .agg #[.int .i64 (q1 : Int), .int .i64 (q2 : Int)] by unfold av; rw [hq1, hq2])
  have HDB := hid (show Sc.decB cl 2 (Sc.sure f n) (Utf.pts f n) = (decide (q2 ≤ Sc.sure f n) && (2 == 1 || !Sc.begun (2 == 3) (Sc.sure f n) (Utf.pts f n))) by unfold Sc.decB; rw [Sc.piece_2, hq2])
  rw [hq1] at hnx hle
  have HN := hid (show Sc.nx (Cl.of L H C tn) (Cl.may L H C tn) 2 f n fin = (Sc.sm f n q1, fin || Sc.decB cl 2 (Sc.sure f n) (Utf.pts f n)) by rw [hce]; exact hnx)
  have HT := hid T
  have HS := hid hS
  have hpl := Utf.pts_len n n f (Nat.le_refl _)
  have hp0 : 0 < (Utf.pts f n).length := by
    rcases Nat.eq_zero_or_pos (Utf.pts f n).length with h | h
    · exact absurd (List.length_eq_zero_iff.1 h) (Sc.pts_ne hn)
    · exact h
  have hsl := Sc.sure_le f n
  have hne := hS.isEmpty_no hn
  have HCl := hid hcl
  clear T hS hcl hce hnx hnext hq1 hq2
  go_enter Tryd.func25, Tryd.ntmps25
  go_wp2_with fail
  refine (rmay_calls ta tn tc L H C _ HT.out).mono ?_
  rintro e w1 ⟨rfl, b1⟩
  rw [hm]
  have T1 := hid (HT.out.below b1)
  have HB1 := hid b1
  clear b1 hm HT
  go_wp2_with fail
  refine (points_calls12 HS.out T1.out hs).mono ?_
  rintro e w2 ⟨v, rfl, L2, b2⟩
  rw [← HCl.out] at L2
  have HB2 := hid (HB1.out.trans (b2.mono HB1.out.size))
  obtain ⟨a1, n1, c1, a2, n2, c2, a3, n3, c3, rfl, i1, i2, i3⟩ := L2.ex
  clear b2 HB1 T1 i1 i2
  obtain ⟨SU, hSU⟩ : ∃ S, Sc.sure f n = S := ⟨_, rfl⟩
  have HSU := hid hSU
  rw [hSU] at L2 HDB hsl ⊢
  clear hSU
  have bl := (Below.refl w2.heap.size w2).alloc (Nat.le_refl _) (.cells #[.slice a1 n1 c1, .slice a2 n2 c2, .slice a3 n3 c3, .int .i64 (SU : Int)] 61)
  have L3 := hid (L2.below bl)
  have I3 := hid (i3.below bl)
  have X3 := hid (Bx4.new w2 61 (.slice a1 n1 c1) (.slice a2 n2 c2) (.slice a3 n3 c3) (.int .i64 (SU : Int)))
  have HB3 := hid (HB2.out.trans (bl.mono HB2.out.size))
  clear L2 i3 bl HB2
  have d0 := X3.out.cell0
  have d1 := X3.out.cell1
  have d2 := X3.out.cell2
  have d3 := X3.out.cell3
  go_wp2_with fail
  refine (word_calls L3.out).mono ?_
  rintro e w4 ⟨rfl, b4⟩
  obtain ⟨z1, hz1⟩ : ∃ z, (Sc.word cl (Utf.pts f n)).1 = z := ⟨_, rfl⟩
  obtain ⟨z2, hz2⟩ : ∃ z, (Sc.word cl (Utf.pts f n)).2 = z := ⟨_, rfl⟩
  have hav : av (Sc.word cl (Utf.pts f n)) = .agg #[.int .i64 (z1 : Int), .int .i64 (z2 : Int)] := by unfold av; rw [hz1, hz2]
  rw [hav]
  have L4 := hid (L3.out.below b4)
  have I4 := hid (I3.out.below b4)
  have X4 := hid (X3.out.below b4 X3.out.lt)
  have HB4 := hid (HB3.out.trans (b4.mono HB3.out.size))
  obtain ⟨K, hK⟩ : ∃ K, w2.heap.size = K := ⟨_, rfl⟩
  rw [hK] at X4 ⊢
  clear d0 d1 d2 d3 b4 L3 I3 X3 HB3 hz1 hz2 hav
  have bA := (Below.refl w4.heap.size w4).alloc (Nat.le_refl _) (.cells #[.int .i64 (z1 : Int), .int .i64 (z2 : Int)] 64)
  have L5 := hid (L4.out.below bA)
  have I5 := hid (I4.out.below bA)
  have X5 := hid (X4.out.below bA X4.out.lt)
  have A5 := hid (show Ax (w4.alloc (.cells #[.int .i64 (z1 : Int), .int .i64 (z2 : Int)] 64)) w4.heap.size (.int .i64 (z1 : Int)) (.int .i64 (z2 : Int)) from heap_alloc_new w4 _)
  have HB5 := hid (HB4.out.trans (bA.mono HB4.out.size))
  have HA4 := hid HB4.out.size
  obtain ⟨K2, hK2⟩ : ∃ K2, K2 = K := ⟨_, rfl⟩
  clear hK hK2
  have d0 := X5.out.cell0
  have d1 := X5.out.cell1
  have d2 := X5.out.cell2
  have d3 := X5.out.cell3
  have HbA := hid bA
  clear bA
  go_wp2_with fail
  refine (plain_calls L5.out hp0).mono ?_
  rintro e w6 ⟨rfl, b6⟩
  rw [HQ.out]
  have A6 := hid (A5.out.below b6 A5.out.lt)
  have a60 := A6.out.c0
  have a6f := A6.out.fr 0
  have A7 := hid ((A6.out.set0 (.int .i64 (q1 : Int))).set1 (.int .i64 (q2 : Int)))
  have a7g := (A6.out.set0 (.int .i64 (q1 : Int))).c1
  have a7h := (A6.out.set0 (.int .i64 (q1 : Int))).fr 1
  have HBA := hid (show Below w4.heap.size w4 ((w6.setCell ⟨w4.heap.size, 0, none⟩ (.int .i64 (q1 : Int))).setCell ⟨w4.heap.size, 1, none⟩ (.int .i64 (q2 : Int))) from ((HbA.out.trans (b6.mono (by simp))).setCell (p := ⟨w4.heap.size, 0, none⟩) (Nat.le_refl _) _).setCell (p := ⟨w4.heap.size, 1, none⟩) (Nat.le_refl _) _)
  have a61 := A6.out.c1
  clear b6 d0 d1 d2 d3 A5 L5 I5 X5 HB5
  have L5 := hid (L4.out.below HBA.out)
  have I5 := hid (I4.out.below HBA.out)
  have X5 := hid (X4.out.below HBA.out X4.out.lt)
  have HB5 := hid (HB4.out.trans (HBA.out.mono HB4.out.size))
  go_wp2_with fail
  obtain ⟨W, hW⟩ : ∃ W, (w6.setCell ⟨w4.heap.size, 0, none⟩ (.int .i64 (q1 : Int))).setCell ⟨w4.heap.size, 1, none⟩ (.int .i64 (q2 : Int)) = W := ⟨_, rfl⟩
  obtain ⟨A, hA⟩ : ∃ A, w4.heap.size = A := ⟨_, rfl⟩
  rw [hW] at L5 I5 X5 A7 HB5 ⊢
  rw [hA] at A7 ⊢
  have A5 := A7
  clear hW hA HBA A7 a60 a6f a7g a7h a61 A6 L4 I4 X4 HB4 HbA
  go_loopg [12, 13] q1 (fun r nv iv wr => ∃ i : Nat, r = q1 - i ∧ nv = .int .i64 (Sc.sm f n i : Nat) ∧ iv = .int .i64 (i : Int) ∧ i ≤ q1 ∧ wr = W)
  case atStart => exact ⟨0, rfl, by rw [Sc.sm_zero]; rfl, rfl, by omega, rfl⟩
  case round =>
    obtain ⟨i, rfl, rfl, rfl, hi, rfl⟩ := hrel
    have d2 := X5.out.cell2
    have d3 := X5.out.cell3
    have d0 := X5.out.cell0
    have d1 := X5.out.cell1
    have a0 := A5.out.c0
    have a1' := A5.out.c1
    have e2 : IntKind.i64.wrap ((i : Int) + 1) = i + 1 := i64_in (by omega) (by omega)
    have e3 : IntKind.i64.wrap (i : Int) = i := i64_in (by omega) (by omega)
    by_cases hlt : i < q1
    · have hll := Sc.lens_len f n
      have hn3 := I5.out.len
      rw [List.length_map] at hn3
      obtain ⟨b, off, rfl, hbl, hc⟩ := I5.out.at' (by omega)
      have p0 := hc i (by omega)
      have hst := sm_step (f := f) (n := n) (i := i) (by omega)
      have hle2 := Sc.sm_le f n (i + 1)
      unfold ni at hst
      obtain ⟨y, hy⟩ : ∃ y, Pr.it ((Sc.lens f n).map (fun (k : Nat) => (k : Int))) i = y := ⟨_, rfl⟩
      rw [hy] at p0 hst
      have HST := hid hst
      have k1 : (i : Int) < q1 := by omega
      have k2 : (i : Int) < n3 := by omega
      have k3 : (0 : Int) ≤ i := by omega
      have e4 : IntKind.i64.wrap ((Sc.sm f n i : Int) + y) = ((Sc.sm f n (i + 1) : Nat) : Int) := by rw [← hst]; exact i64_in (by omega) (by omega)
      clear hc hy hst hn3
      go_wp2_with fail
      go_roundg (q1 - (i + 1))
      case measure => omega
      case rel => exact ⟨i + 1, rfl, rfl, by go_num, by omega, rfl⟩
    · obtain rfl : i = q1 := by omega
      have k1 : ¬ (i : Int) < i := by omega
      cases fin with
      | true =>
        go_wp2_with fail
        go_ret2
        exact ⟨ret_nx (by rw [HN.out]) (by rw [HN.out]; rfl), HB5.out⟩
      | false =>
        by_cases hq : q2 ≤ SU
        · have k4 : (q2 : Int) ≤ SU := by omega
          have HV := hid (show Sc.decB cl 2 SU (Utf.pts f n) = !Sc.begun false SU (Utf.pts f n) by rw [HDB.out, decide_eq_true hq]; rfl)
          obtain ⟨bg, hbg⟩ : ∃ bg, Sc.begun false SU (Utf.pts f n) = bg := ⟨_, rfl⟩
          have HBG := hid hbg
          clear hbg
          go_wp2_with fail
          refine (begun_calls L5.out false).mono ?_
          rintro e w8 ⟨rfl, b8⟩
          rw [HBG.out]
          have HB8 := hid (HB5.out.trans (b8.mono HB5.out.size))
          clear b8
          go_wp2_with fail
          go_ret2
          exact ⟨ret_nx (by rw [HN.out]) (by rw [HN.out, HSU.out, HV.out, HBG.out]; rfl), HB8.out⟩
        · have k4 : ¬ (q2 : Int) ≤ SU := by omega
          have HV := hid (show Sc.decB cl 2 SU (Utf.pts f n) = false by rw [HDB.out, decide_eq_false hq]; rfl)
          go_wp2_with fail
          go_ret2
          exact ⟨ret_nx (by rw [HN.out]) (by rw [HN.out, HSU.out, HV.out]; rfl), HB5.out⟩
set_option maxRecDepth 100000 in
set_option maxHeartbeats 3200000 in
theorem rnx_3 {w : World} {s : ByteArray} {ta : Option Addr} {tn tc n : Nat} {L H C f : Nat → Int} (hS : St s n f) (T : Rs w ta tn tc L H C) (fin : Bool) (hn : 0 < n) (hs : n ≤ 100000) (hm : Cl.may L H C tn = true) :
    Calls Tryd.prog 25 #[.int .i64 3, .slice ta tn tc, .string s, .bool fin] w fun e w' => e = .returned (NX (Sc.nx (Cl.of L H C tn) (Cl.may L H C tn) 3 f n fin)) ∧ Below w.heap.size w w' := by
  obtain ⟨cl, hcl⟩ : ∃ cl : Int → Int, cl = fun p => Cl.cls L H C p 0 tn := ⟨_, rfl⟩
  have hce : Cl.of L H C tn = cl := by rw [hcl]; funext p; unfold Cl.of; rw [hm]; rfl
  have hnx := Sc.nx_kind (cl := cl) (may := Cl.may L H C tn) (kind := 3) (f := f) (n := n) (fin := fin) (fun e => e.elim (by omega) (fun e => by rw [hm] at e; cases e)) (by decide)
  have hle := Sc.piece_le (cl := cl) (kind := 3) (Utf.pts f n)
  have hnext : Sc.next cl 3 f n = Sc.sm f n (Sc.piece cl 3 (Utf.pts f n)).1 := rfl
  rw [hnext] at hnx
  rw [Sc.piece_3] at hnx hle
  obtain ⟨q1, hq1⟩ : ∃ q, (Sc.wide cl (Utf.pts f n)).1 = q := ⟨_, rfl⟩
  obtain ⟨q2, hq2⟩ : ∃ q, (Sc.wide cl (Utf.pts f n)).2 = q := ⟨_, rfl⟩
  have HQ := hid (show av (Sc.wide cl (Utf.pts f n)) = .agg #[.int .i64 (q1 : Int), .int .i64 (q2 : Int)] by unfold av; rw [hq1, hq2])
  have HDB := hid (show Sc.decB cl 3 (Sc.sure f n) (Utf.pts f n) = (decide (q2 ≤ Sc.sure f n) && (3 == 1 || !Sc.begun (3 == 3) (Sc.sure f n) (Utf.pts f n))) by unfold Sc.decB; rw [Sc.piece_3, hq2])
  rw [hq1] at hnx hle
  have HN := hid (show Sc.nx (Cl.of L H C tn) (Cl.may L H C tn) 3 f n fin = (Sc.sm f n q1, fin || Sc.decB cl 3 (Sc.sure f n) (Utf.pts f n)) by rw [hce]; exact hnx)
  have HT := hid T
  have HS := hid hS
  have hpl := Utf.pts_len n n f (Nat.le_refl _)
  have hp0 : 0 < (Utf.pts f n).length := by
    rcases Nat.eq_zero_or_pos (Utf.pts f n).length with h | h
    · exact absurd (List.length_eq_zero_iff.1 h) (Sc.pts_ne hn)
    · exact h
  have hsl := Sc.sure_le f n
  have hne := hS.isEmpty_no hn
  have HCl := hid hcl
  clear T hS hcl hce hnx hnext hq1 hq2
  go_enter Tryd.func25, Tryd.ntmps25
  go_wp2_with fail
  refine (rmay_calls ta tn tc L H C _ HT.out).mono ?_
  rintro e w1 ⟨rfl, b1⟩
  rw [hm]
  have T1 := hid (HT.out.below b1)
  have HB1 := hid b1
  clear b1 hm HT
  go_wp2_with fail
  refine (points_calls12 HS.out T1.out hs).mono ?_
  rintro e w2 ⟨v, rfl, L2, b2⟩
  rw [← HCl.out] at L2
  have HB2 := hid (HB1.out.trans (b2.mono HB1.out.size))
  obtain ⟨a1, n1, c1, a2, n2, c2, a3, n3, c3, rfl, i1, i2, i3⟩ := L2.ex
  clear b2 HB1 T1 i1 i2
  obtain ⟨SU, hSU⟩ : ∃ S, Sc.sure f n = S := ⟨_, rfl⟩
  have HSU := hid hSU
  rw [hSU] at L2 HDB hsl ⊢
  clear hSU
  have bl := (Below.refl w2.heap.size w2).alloc (Nat.le_refl _) (.cells #[.slice a1 n1 c1, .slice a2 n2 c2, .slice a3 n3 c3, .int .i64 (SU : Int)] 61)
  have L3 := hid (L2.below bl)
  have I3 := hid (i3.below bl)
  have X3 := hid (Bx4.new w2 61 (.slice a1 n1 c1) (.slice a2 n2 c2) (.slice a3 n3 c3) (.int .i64 (SU : Int)))
  have HB3 := hid (HB2.out.trans (bl.mono HB2.out.size))
  clear L2 i3 bl HB2
  have d0 := X3.out.cell0
  have d1 := X3.out.cell1
  have d2 := X3.out.cell2
  have d3 := X3.out.cell3
  go_wp2_with fail
  refine (word_calls L3.out).mono ?_
  rintro e w4 ⟨rfl, b4⟩
  obtain ⟨z1, hz1⟩ : ∃ z, (Sc.word cl (Utf.pts f n)).1 = z := ⟨_, rfl⟩
  obtain ⟨z2, hz2⟩ : ∃ z, (Sc.word cl (Utf.pts f n)).2 = z := ⟨_, rfl⟩
  have hav : av (Sc.word cl (Utf.pts f n)) = .agg #[.int .i64 (z1 : Int), .int .i64 (z2 : Int)] := by unfold av; rw [hz1, hz2]
  rw [hav]
  have L4 := hid (L3.out.below b4)
  have I4 := hid (I3.out.below b4)
  have X4 := hid (X3.out.below b4 X3.out.lt)
  have HB4 := hid (HB3.out.trans (b4.mono HB3.out.size))
  obtain ⟨K, hK⟩ : ∃ K, w2.heap.size = K := ⟨_, rfl⟩
  rw [hK] at X4 ⊢
  clear d0 d1 d2 d3 b4 L3 I3 X3 HB3 hz1 hz2 hav
  have bA := (Below.refl w4.heap.size w4).alloc (Nat.le_refl _) (.cells #[.int .i64 (z1 : Int), .int .i64 (z2 : Int)] 64)
  have L5 := hid (L4.out.below bA)
  have I5 := hid (I4.out.below bA)
  have X5 := hid (X4.out.below bA X4.out.lt)
  have A5 := hid (show Ax (w4.alloc (.cells #[.int .i64 (z1 : Int), .int .i64 (z2 : Int)] 64)) w4.heap.size (.int .i64 (z1 : Int)) (.int .i64 (z2 : Int)) from heap_alloc_new w4 _)
  have HB5 := hid (HB4.out.trans (bA.mono HB4.out.size))
  have HA4 := hid HB4.out.size
  obtain ⟨K2, hK2⟩ : ∃ K2, K2 = K := ⟨_, rfl⟩
  clear hK hK2
  have d0 := X5.out.cell0
  have d1 := X5.out.cell1
  have d2 := X5.out.cell2
  have d3 := X5.out.cell3
  have HbA := hid bA
  clear bA
  go_wp2_with fail
  refine (wide_calls L5.out hp0).mono ?_
  rintro e w6 ⟨rfl, b6⟩
  rw [HQ.out]
  have A6 := hid (A5.out.below b6 A5.out.lt)
  have a60 := A6.out.c0
  have a6f := A6.out.fr 0
  have A7 := hid ((A6.out.set0 (.int .i64 (q1 : Int))).set1 (.int .i64 (q2 : Int)))
  have a7g := (A6.out.set0 (.int .i64 (q1 : Int))).c1
  have a7h := (A6.out.set0 (.int .i64 (q1 : Int))).fr 1
  have HBA := hid (show Below w4.heap.size w4 ((w6.setCell ⟨w4.heap.size, 0, none⟩ (.int .i64 (q1 : Int))).setCell ⟨w4.heap.size, 1, none⟩ (.int .i64 (q2 : Int))) from ((HbA.out.trans (b6.mono (by simp))).setCell (p := ⟨w4.heap.size, 0, none⟩) (Nat.le_refl _) _).setCell (p := ⟨w4.heap.size, 1, none⟩) (Nat.le_refl _) _)
  have a61 := A6.out.c1
  clear b6 d0 d1 d2 d3 A5 L5 I5 X5 HB5
  have L5 := hid (L4.out.below HBA.out)
  have I5 := hid (I4.out.below HBA.out)
  have X5 := hid (X4.out.below HBA.out X4.out.lt)
  have HB5 := hid (HB4.out.trans (HBA.out.mono HB4.out.size))
  go_wp2_with fail
  obtain ⟨W, hW⟩ : ∃ W, (w6.setCell ⟨w4.heap.size, 0, none⟩ (.int .i64 (q1 : Int))).setCell ⟨w4.heap.size, 1, none⟩ (.int .i64 (q2 : Int)) = W := ⟨_, rfl⟩
  obtain ⟨A, hA⟩ : ∃ A, w4.heap.size = A := ⟨_, rfl⟩
  rw [hW] at L5 I5 X5 A7 HB5 ⊢
  rw [hA] at A7 ⊢
  have A5 := A7
  clear hW hA HBA A7 a60 a6f a7g a7h a61 A6 L4 I4 X4 HB4 HbA
  go_loopg [12, 13] q1 (fun r nv iv wr => ∃ i : Nat, r = q1 - i ∧ nv = .int .i64 (Sc.sm f n i : Nat) ∧ iv = .int .i64 (i : Int) ∧ i ≤ q1 ∧ wr = W)
  case atStart => exact ⟨0, rfl, by rw [Sc.sm_zero]; rfl, rfl, by omega, rfl⟩
  case round =>
    obtain ⟨i, rfl, rfl, rfl, hi, rfl⟩ := hrel
    have d2 := X5.out.cell2
    have d3 := X5.out.cell3
    have d0 := X5.out.cell0
    have d1 := X5.out.cell1
    have a0 := A5.out.c0
    have a1' := A5.out.c1
    have e2 : IntKind.i64.wrap ((i : Int) + 1) = i + 1 := i64_in (by omega) (by omega)
    have e3 : IntKind.i64.wrap (i : Int) = i := i64_in (by omega) (by omega)
    by_cases hlt : i < q1
    · have hll := Sc.lens_len f n
      have hn3 := I5.out.len
      rw [List.length_map] at hn3
      obtain ⟨b, off, rfl, hbl, hc⟩ := I5.out.at' (by omega)
      have p0 := hc i (by omega)
      have hst := sm_step (f := f) (n := n) (i := i) (by omega)
      have hle2 := Sc.sm_le f n (i + 1)
      unfold ni at hst
      obtain ⟨y, hy⟩ : ∃ y, Pr.it ((Sc.lens f n).map (fun (k : Nat) => (k : Int))) i = y := ⟨_, rfl⟩
      rw [hy] at p0 hst
      have HST := hid hst
      have k1 : (i : Int) < q1 := by omega
      have k2 : (i : Int) < n3 := by omega
      have k3 : (0 : Int) ≤ i := by omega
      have e4 : IntKind.i64.wrap ((Sc.sm f n i : Int) + y) = ((Sc.sm f n (i + 1) : Nat) : Int) := by rw [← hst]; exact i64_in (by omega) (by omega)
      clear hc hy hst hn3
      go_wp2_with fail
      go_roundg (q1 - (i + 1))
      case measure => omega
      case rel => exact ⟨i + 1, rfl, rfl, by go_num, by omega, rfl⟩
    · obtain rfl : i = q1 := by omega
      have k1 : ¬ (i : Int) < i := by omega
      cases fin with
      | true =>
        go_wp2_with fail
        go_ret2
        exact ⟨ret_nx (by rw [HN.out]) (by rw [HN.out]; rfl), HB5.out⟩
      | false =>
        by_cases hq : q2 ≤ SU
        · have k4 : (q2 : Int) ≤ SU := by omega
          have HV := hid (show Sc.decB cl 3 SU (Utf.pts f n) = !Sc.begun true SU (Utf.pts f n) by rw [HDB.out, decide_eq_true hq]; rfl)
          obtain ⟨bg, hbg⟩ : ∃ bg, Sc.begun true SU (Utf.pts f n) = bg := ⟨_, rfl⟩
          have HBG := hid hbg
          clear hbg
          go_wp2_with fail
          refine (begun_calls L5.out true).mono ?_
          rintro e w8 ⟨rfl, b8⟩
          rw [HBG.out]
          have HB8 := hid (HB5.out.trans (b8.mono HB5.out.size))
          clear b8
          go_wp2_with fail
          go_ret2
          exact ⟨ret_nx (by rw [HN.out]) (by rw [HN.out, HSU.out, HV.out, HBG.out]; rfl), HB8.out⟩
        · have k4 : ¬ (q2 : Int) ≤ SU := by omega
          have HV := hid (show Sc.decB cl 3 SU (Utf.pts f n) = false by rw [HDB.out, decide_eq_false hq]; rfl)
          go_wp2_with fail
          go_ret2
          exact ⟨ret_nx (by rw [HN.out]) (by rw [HN.out, HSU.out, HV.out]; rfl), HB5.out⟩
theorem rnext_calls {w : World} {s : ByteArray} {ta : Option Addr} {tn tc n : Nat} {L H C f : Nat → Int} (kind : Int) (hS : St s n f) (T : Rs w ta tn tc L H C) (hs : n ≤ 100000) (fin : Bool) :
    Calls Tryd.prog 25 #[.int .i64 kind, .slice ta tn tc, .string s, .bool fin] w fun e w' => e = .returned (NX (Sc.nx (Cl.of L H C tn) (Cl.may L H C tn) kind f n fin)) ∧ Below w.heap.size w w' := by
  by_cases h : n = 0 ∨ ¬ (kind = 0 ∨ kind = 1 ∨ kind = 2 ∨ kind = 3) ∨ Cl.may L H C tn = false
  · exact rnx_none kind hS T fin h
  · have hn : 0 < n := Nat.pos_of_ne_zero (fun e => h (.inl e))
    have hm : Cl.may L H C tn = true := by
      cases hm : Cl.may L H C tn with
      | true => rfl
      | false => exact absurd (.inr (.inr hm)) h
    have hk : kind = 0 ∨ kind = 1 ∨ kind = 2 ∨ kind = 3 := Classical.byContradiction fun e => h (.inr (.inl e))
    rcases hk with rfl | rfl | rfl | rfl
    · exact rnx_zero hS T fin hn hm
    · exact rnx_1 hS T fin hn hs hm
    · exact rnx_2 hS T fin hn hs hm
    · exact rnx_3 hS T fin hn hs hm
end Go.Proofs.YtiheagkgpbkkfaaDoor
