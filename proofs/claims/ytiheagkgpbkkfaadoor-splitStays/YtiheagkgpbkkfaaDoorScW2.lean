/-
  A reader's class, run and gap.
-/
import Derived.Test.YtiheagkgpbkkfaaDoorScW1
import Derived.Test.YtiheagkgpbkkfaaDoorLotC
import Derived.Lib.QuietBelow
import Derived.BigQuiet
import Derived.WalkMore
namespace Go.Proofs.YtiheagkgpbkkfaaDoor
open Go.RowKit
set_option linter.unusedVariables false
/-- A point's class; -1, if there is no such point. -/
def Dt.clsAt (D : Dt) (i : Nat) : Int := if i < D.ps.length then D.cl (Pr.it D.ps i) else -1
/-- So many of some classes stand in a row from a place on; then so many points have been read. -/
def Dt.run (D : Dt) (cs : List Int) (i : Nat) : Nat := Sc.tw (Sc.isAny D.cl cs) (D.ps.drop i)
def Dt.runM (D : Dt) (cs : List Int) (i : Nat) : Nat := if D.run cs i = 0 then 0 else i + D.run cs i
theorem Dt.cl_rg (D : Dt) (hm : Cl.may D.L D.H D.C D.tn = true) (p : Int) : 0 ≤ D.cl p ∧ D.cl p ≤ 4 := by
  have hM := (Cl.may_iff _ _ _ _).1 hm
  unfold Dt.cl Cl.of
  rw [hm]
  simp only [if_true]
  generalize hk : 0 = k0
  have key : ∀ (m k : Nat), k + m ≤ D.tn → 0 ≤ Cl.cls D.L D.H D.C p k m ∧ Cl.cls D.L D.H D.C p k m ≤ 4 := by
    intro m
    induction m with
    | zero => intro k _; unfold Cl.cls; exact ⟨by decide, by decide⟩
    | succ m ih =>
      intro k hkm
      unfold Cl.cls
      split
      · have := hM.2 k (by omega)
        obtain ⟨_, _, _, h4, h5⟩ := this
        omega
      · exact ih (k + 1) (by omega)
  have := key D.tn 0 (by omega)
  simpa [← hk] using this
section
variable {D : Dt} {X : Nat → Prop} {w : World} {k : Nat}
set_option maxRecDepth 100000 in
set_option maxHeartbeats 1600000 in
theorem class_calls (h : Rd D X w k) (i : Nat) (hi : i ≤ 1000000) :
    Calls Tryd.prog 69 #[.pointer (some ⟨D.o, 0, none⟩), .int .i64 (i : Int)] w fun e w' => e = .returned (.int .i64 (D.clsAt i)) ∧ Gone D X w k (D.hasM i) w' := by
  have HH := hid (has_calls h i hi)
  have hs := h.small
  have hl := h.len
  clear h
  go_enter Tryd.func69, Tryd.ntmps69
  go_wp2_with fail
  refine HH.out.mono ?_
  rintro e w1 ⟨rfl, g1⟩
  by_cases hlt : i < D.ps.length
  · have HC := hid (show D.clsAt i = D.cl (Pr.it D.ps i) from if_pos hlt)
    obtain ⟨e1, e2⟩ := Dt.has_yes (D := D) hlt
    rw [e2] at g1
    obtain ⟨k1, ha, hb, R, M⟩ := g1
    have HR := hid R
    have HM := hid M
    obtain ⟨a1, c1, a2, c2, h1, h2, h3, h4⟩ := R.ex
    have d0 := h1.cell0
    have d2 := h1.cell2
    have I := Ir.ofOwn' h2
    obtain ⟨b, off, rfl, hbl, hc⟩ := I.at' (by omega)
    have p0 := hc i (by omega)
    rw [Pr.it_take (by omega)] at p0
    have hkn := R.kn
    obtain ⟨p, hp⟩ : ∃ p, Pr.it D.ps i = p := ⟨_, rfl⟩
    rw [hp] at p0 HC
    have q1 : (i : Int) < k1 := by omega
    have q2 : (0 : Int) ≤ i := by omega
    rw [e1]
    have hT := R.table
    have HF := hid (show ∀ w', Below w1.heap.size w1 w' → Gone D X w k (D.hasM i) w' from fun w' bb => ⟨k1, ha, by rw [e2]; exact hb, R.below bb, M.then_below bb⟩)
    have cA : ∀ d os, Calls Tryd.prog 73 #[.slice D.ta D.tn D.tc, .int .i64 p] (Sort.grow (redrawn w1 d) os) fun e w'' => e = .returned (.int .i64 (Cl.of D.L D.H D.C D.tn p)) ∧ ∃ q : Regrown, w'' = Sort.grow (redrawn w1 q.d) q.os := fun d os => Calls.regrown_of (of_calls D.ta D.tn D.tc D.L D.H D.C p _ (hT.below (below_regrown _ d os)))
    clear R M h1 h2 h3 h4 I hc hp e1 e2 hT HH hb ha
    go_wp2_with fail
    have f0 := fun d os => cell_regrown d0 d os
    have f2 := fun d os => cell_regrown d2 d os
    have f4 := fun d os => cell_regrown p0 d os
    refine wp_region_quiet_below (by kernel_rfl) (by kernel_rfl) ?_
    repeat (any_goals (first | go_big_quiet_step (exact cA _ _) | quiet_step (exact cA _ _)))
    refine wpQuiet_nil ?_
    intro _ hw'
    obtain ⟨⟨dq, osq⟩, hw''⟩ := hw'
    subst hw''
    have HG := hid (HF.out _ (below_regrown w1 dq osq))
    obtain ⟨W4, hW4⟩ : ∃ W, Sort.grow (redrawn w1 dq) osq = W := ⟨_, rfl⟩
    rw [hW4] at HG ⊢
    clear d0 d2 p0 f0 f2 f4 cA hW4 HF
    go_wp2_with fail
    go_ret
    exact ⟨ret_int (by rw [HC.out]; rfl), HG.out⟩
  · have HC := hid (show D.clsAt i = -1 from if_neg hlt)
    obtain ⟨e1, e2⟩ := Dt.has_no (D := D) hlt
    have HG := hid g1
    rw [e1]
    clear g1 e1 e2 HH
    go_wp2_with fail
    go_ret
    exact ⟨ret_int HC.out.symm, HG.out⟩
theorem run_mem {cs : List Int} {i n : Nat} (hcs : ∀ c ∈ cs, 0 ≤ c) (hn : n ≤ D.run cs i) : D.clsAt (i + n) ∈ cs ↔ n < D.run cs i := by
  obtain ⟨h1, h2⟩ := tw_at (q := Sc.isAny D.cl cs) (l := D.ps) (i := i) (n := D.run cs i) rfl
  constructor
  · intro h
    rcases Nat.lt_or_ge n (D.run cs i) with h3 | h3
    · exact h3
    · exfalso
      obtain rfl : n = D.run cs i := by omega
      unfold Dt.clsAt at h
      split at h
      · rename_i h4
        have := h2 h4
        unfold Sc.isAny at this
        rw [List.contains_iff_mem.2 h] at this
        cases this
      · have := hcs _ h; omega
  · intro h
    obtain ⟨h3, h4⟩ := h1 n h
    unfold Dt.clsAt
    rw [if_pos h3]
    exact List.contains_iff_mem.1 h4
theorem run_has {cs : List Int} {i n : Nat} (hn : n < D.run cs i) : i + n < D.ps.length := ((tw_at (q := Sc.isAny D.cl cs) (l := D.ps) (i := i) (n := D.run cs i) rfl).1 n hn).1
theorem it_mem_iff {cs : List Int} {c : Int} : c ∈ cs ↔ ∃ j, j < cs.length ∧ Pr.it cs j = c := by
  constructor
  · intro h
    obtain ⟨j, hj, e⟩ := List.mem_iff_getElem.1 h
    exact ⟨j, hj, by have := Pr.it_get hj; rw [List.getElem?_eq_getElem hj] at this; rw [← e]; exact (Option.some.inj this).symm⟩
  · rintro ⟨j, hj, rfl⟩
    exact Pr.it_mem hj
set_option maxRecDepth 100000 in
set_option maxHeartbeats 1600000 in
theorem run_calls (h : Rd D X w k) (B : Nat) (cs : List Int) (m : Nat) (hm : cs.length = m) (hm10 : m ≤ 10) (hB : w.heap[B]? = some (.cells (iv cs).toArray 3 (0, 0))) (hX : X B) (hcs : ∀ c ∈ cs, 0 ≤ c) (i : Nat) (hi : i ≤ 500000) :
    Calls Tryd.prog 59 #[.pointer (some ⟨D.o, 0, none⟩), .int .i64 (i : Int), .slice (some ⟨B, 0, none⟩) m m] w fun e w' => e = .returned (.int .i64 (D.run cs i : Nat)) ∧ Gone D X w k (D.runM cs i) w' := by
  subst hm
  have hs := h.small
  have hl := h.len
  have HCS := hid hcs
  have HX := hid hX
  have HB0 := hid hB
  have HR := hid h
  have hrl : D.run cs i ≤ D.ps.length := by
    have h4 : D.run cs i ≤ (D.ps.drop i).length := Sc.tw_le _ _
    rw [List.length_drop] at h4
    omega
  clear h hcs hX hB
  go_enter Tryd.func59, Tryd.ntmps59
  go_wp2_with fail
  go_step3
  go_wp2_with fail
  go_step3
  go_wp2_with fail
  go_loopg [7] (D.run cs i) (fun r nv wr => ∃ n : Nat, r = D.run cs i - n ∧ nv = .int .i64 (n : Int) ∧ n ≤ D.run cs i ∧ Hid (∃ k1, k ≤ k1 ∧ (n ≠ 0 → i + n ≤ k1) ∧ Rd D X wr k1 ∧ Mut (fun b => ¬ X b) w wr))
  case atStart => exact ⟨0, rfl, rfl, by omega, k, Nat.le_refl _, fun e => absurd rfl e, HR.out, Mut.refl _ _⟩
  case round =>
    obtain ⟨n, rfl, rfl, hn, HG⟩ := hrel
    obtain ⟨k1, ha, hb, R1, M1⟩ := HG.out
    have HC := hid (class_calls R1 (i + n) (by omega))
    have HM := hid M1
    have HA := hid (⟨ha, hb⟩ : k ≤ k1 ∧ (n ≠ 0 → i + n ≤ k1))
    have HMem := hid (run_mem (D := D) (cs := cs) (i := i) (n := n) HCS.out hn)
    have HHas := hid (fun hlt => run_has (D := D) (cs := cs) (i := i) (n := n) hlt)
    have e1 : IntKind.i64.wrap ((i : Int) + n) = ((i + n : Nat) : Int) := by rw [i64_in (by omega) (by omega)]; omega
    have e2 : IntKind.i64.wrap ((n : Int) + 1) = n + 1 := i64_in (by omega) (by omega)
    obtain ⟨J, hJ⟩ : ∃ J : Nat, J = i + n := ⟨_, rfl⟩
    rw [← hJ] at e1 HC
    obtain ⟨c, hc⟩ : ∃ c, D.clsAt (i + n) = c := ⟨_, rfl⟩
    rw [hJ, hc] at HC
    rw [hc] at HMem
    rw [← hJ] at HC
    have HJ := hid hJ
    clear R1 M1 ha hb HG hJ hc
    go_wp2_with fail
    refine HC.out.mono ?_
    rintro e w2 ⟨rfl, g2⟩
    obtain ⟨k2, a2, b2, R2, M2⟩ := g2
    have HR2 := hid R2
    have M3 := hid (HM.out.trans M2 (fun _ _ e => e))
    have HB2 := hid ((M3.out.block B (HR.out.lt B HX.out) (fun h => h HX.out)).trans HB0.out)
    have HA2 := hid (show k ≤ k2 ∧ (n ≠ 0 → i + n ≤ k2) ∧ D.hasM J ≤ k2 from ⟨Nat.le_trans HA.out.1 a2, fun e => Nat.le_trans (HA.out.2 e) a2, b2⟩)
    clear R2 M2 a2 b2 HC HM HA
    go_wp2_with fail
    go_loopg [7, 18] cs.length (fun r nv jv wq => ∃ j : Nat, r = cs.length - j ∧ nv = .int .i64 (n : Int) ∧ jv = .int .i64 (j : Int) ∧ j ≤ cs.length ∧ Hid (∀ q, q < j → Pr.it cs q ≠ c) ∧ wq = w2)
    case atStart => exact ⟨0, rfl, rfl, rfl, by omega, hid (fun q hq => by omega), rfl⟩
    case round =>
      obtain ⟨j, rfl, rfl, rfl, hj, HNo, rfl⟩ := hrel
      have e3 : IntKind.i64.wrap ((j : Int) + 1) = j + 1 := i64_in (by omega) (by omega)
      have j0 : (0 : Int) ≤ j := by omega
      by_cases hjl : j < cs.length
      · have j1 : (j : Int) < cs.length := by omega
        have p0 : wr.cell? ⟨B, j, none⟩ = some (.int .i64 (Pr.it cs j)) := by
          simp only [World.cell?, HB2.out]
          simpa using iv_get hjl
        by_cases hq : Pr.it cs j = c
        · have hlt : n < D.run cs i := HMem.out.1 (it_mem_iff.2 ⟨j, hjl, hq⟩)
          have HL := hid hlt
          have HK := hid (show i + n + 1 ≤ k2 by have := HA2.out.2.2; rw [HJ.out, (Dt.has_yes (HHas.out hlt)).2] at this; exact this)
          rw [hq] at p0
          clear hlt hq
          go_wp2_with fail
          go_roundg (D.run cs i - (n + 1))
          case measure => have := HL.out; omega
          case rel => exact ⟨n + 1, rfl, by go_num, by have := HL.out; omega, hid ⟨k2, HA2.out.1, fun _ => by have := HK.out; omega, HR2.out, M3.out⟩⟩
        · have HNo2 := hid (show ∀ q, q < j + 1 → Pr.it cs q ≠ c from fun q h => by
            rcases Nat.lt_succ_iff_lt_or_eq.1 h with h | rfl
            · exact HNo.out q h
            · exact hq)
          have t1 : (c == Pr.it cs j) = false := by rw [beq_eq_false_iff_ne]; exact fun e => hq e.symm
          obtain ⟨y, hy⟩ : ∃ y, Pr.it cs j = y := ⟨_, rfl⟩
          rw [hy] at p0 t1
          clear hq hy HNo
          go_wp2_with fail
          go_roundg (cs.length - (j + 1))
          case measure => omega
          case rel => exact ⟨j + 1, rfl, rfl, by go_num, by omega, HNo2, rfl⟩
      · obtain rfl : j = cs.length := by omega
        have hnl : ¬ n < D.run cs i := fun h => by
          obtain ⟨q, hq, e⟩ := it_mem_iff.1 (HMem.out.2 h)
          exact HNo.out q hq e
        obtain rfl : n = D.run cs i := by omega
        have HG := hid (show Gone D X w k (D.runM cs i) wr from ⟨k2, HA2.out.1, by
          unfold Dt.runM
          split
          · omega
          · exact HA2.out.2.1 (by assumption), HR2.out, M3.out⟩)
        clear HMem HHas HA2
        go_wp2_with fail
        try rw [Exit.noGoto_ret]
        go_ret
        exact ⟨rfl, HG.out⟩
theorem Gone.unlaid {ob : Obj} {m : Nat} {w' : World} (h : Rd D X w k) (g : Gone D (fun b => X b ∨ b = w.heap.size) (w.alloc ob) k m w') : Gone D X w k m w' := by
  obtain ⟨k1, h1, h2, R, M⟩ := g
  exact ⟨k1, h1, h2, R.weak (fun b hb => .inl hb) h.xs, ((Mut.refl (fun b => ¬ X b) w).alloc ob).trans ⟨M.os, M.tape, M.output, M.size, M.block⟩ (fun i hi e hx => e (.inl hx))⟩
set_option maxRecDepth 100000 in
set_option maxHeartbeats 1600000 in
theorem gap_calls (h : Rd D X w k) :
    Calls Tryd.prog 58 #[.pointer (some ⟨D.o, 0, none⟩)] w fun e w' => e = .returned (.int .i64 (Sc.sp D.cl D.ps : Nat)) ∧ Gone D X w k (Sc.sp D.cl D.ps) w' := by
  have HR := hid h
  have HC := hid (run_calls (h.laid (.cells #[.int .i64 3, .int .i64 4] 3)) w.heap.size [3, 4] 2 rfl (by omega) (heap_alloc_new w _) (.inr rfl) (by intro c hc; simp at hc; omega) 0 (by omega))
  have e : D.run [3, 4] 0 = Sc.sp D.cl D.ps := by unfold Dt.run Sc.sp; rw [Sc.any_sp]; rfl
  have em : D.runM [3, 4] 0 = Sc.sp D.cl D.ps := by unfold Dt.runM; rw [e]; split <;> omega
  rw [e, em] at HC
  clear h e em
  go_enter Tryd.func58, Tryd.ntmps58
  go_wp2_with fail
  refine HC.out.mono ?_
  rintro e w1 ⟨rfl, g⟩
  have HG := hid (g.unlaid HR.out)
  clear g HC
  go_wp2_with fail
  go_ret
  exact ⟨rfl, HG.out⟩
end
end Go.Proofs.YtiheagkgpbkkfaaDoor
