/-
  A reader's ways of cutting: behindBlank, letters, numbers, lines, spaces, none, blank, plain, wide.
-/
import Derived.Test.YtiheagkgpbkkfaaDoorScW3
namespace Go.Proofs.YtiheagkgpbkkfaaDoor
open Go.RowKit
set_option linter.unusedVariables false
/-- So many points, and the reach. -/
def PieceR (D : Dt) (X : Nat → Prop) (w : World) (k : Nat) (q : Nat × Nat) (e : Ending) (w' : World) : Prop := e = .returned (.tuple #[.int .i64 (q.1 : Nat), .int .i64 (q.2 : Nat)]) ∧ Gone D X w k q.1 w'
theorem ret_pair {a b c d : Int} (h : a = c) (h' : b = d) : Ending.returned (.tuple #[.int .i64 a, .int .i64 b]) = .returned (.tuple #[.int .i64 c, .int .i64 d]) := by rw [h, h']
section
variable {D : Dt} {X : Nat → Prop} {w : World} {k : Nat}
theorem Dt.run_one (D : Dt) (c : Int) (i : Nat) : D.run [c] i = Sc.rn D.cl c (D.ps.drop i) := by unfold Dt.run Sc.rn; rw [Sc.any_one]
theorem Gone.to {m m' : Nat} {w1 w2 : World} {k1 : Nat} (h1 : k ≤ k1) (M1 : Mut (fun b => ¬ X b) w w1) (h2 : Gone D X w1 k1 m w2) (hm : m' ≤ m ∨ m' ≤ k1) : Gone D X w k m' w2 := h2.step h1 M1 hm
theorem Rd.ne (h : Rd D X w k) : D.ps ≠ [] := by
  have hp := h.pos
  intro e
  have := Utf.pts_step D.f hp
  rw [show Utf.pts D.f D.bn = [] from e] at this
  cases this
theorem Rd.len0 (h : Rd D X w k) : 0 < D.ps.length := by
  rcases Nat.eq_zero_or_pos D.ps.length with h0 | h0
  · exact absurd (List.length_eq_zero_iff.1 h0) h.ne
  · exact h0
theorem cls_head (h : Rd D X w k) : D.clsAt 0 = Sc.headC D.cl D.ps := by
  have h0 := h.len0
  unfold Dt.clsAt
  rw [if_pos h0]
  cases hp : D.ps with
  | nil => rw [hp] at h0; simp at h0
  | cons p l => rfl
/-- A row of one class is laid, and run called. -/
theorem run1_calls (h : Rd D X w k) (c : Int) (hc : 0 ≤ c) (i : Nat) (hi : i ≤ 500000) (B : Nat) (hB : B = w.heap.size) :
    Calls Tryd.prog 59 #[.pointer (some ⟨D.o, 0, none⟩), .int .i64 (i : Int), .slice (some ⟨B, 0, none⟩) 1 1] (w.alloc (.cells #[.int .i64 c] 3)) fun e w' => e = .returned (.int .i64 (Sc.rn D.cl c (D.ps.drop i) : Nat)) ∧ Gone D X w k (if Sc.rn D.cl c (D.ps.drop i) = 0 then 0 else i + Sc.rn D.cl c (D.ps.drop i)) w' := by
  subst hB
  refine (run_calls (h.laid (.cells #[.int .i64 c] 3)) w.heap.size [c] 1 rfl (by omega) (heap_alloc_new w _) (.inr rfl) (by intro d hd; simp at hd; omega) i hi).mono ?_
  rintro e w1 ⟨rfl, g⟩
  refine ⟨by rw [D.run_one], ?_⟩
  have g := g.unlaid h
  unfold Dt.runM at g
  rwa [D.run_one] at g
set_option maxRecDepth 100000 in
set_option maxHeartbeats 1600000 in
theorem behindBlank_calls (h : Rd D X w k) (c : Int) (hc : 0 ≤ c) :
    Calls Tryd.prog 61 #[.pointer (some ⟨D.o, 0, none⟩), .int .i64 c] w fun e w' => e = .returned (.int .i64 (Sc.led D.cl c D.ps : Nat)) ∧ Gone D X w k (Sc.led D.cl c D.ps) w' := by
  have HL := hid (Sc.led_bytes (cl := D.cl) (c := c) (f := D.f) (n := D.bn) (fun i => (h.byt.bd i).1) h.pos)
  obtain ⟨a1, c1, a2, c2, h1, h2, h3, h4⟩ := h.ex
  have d1 := h1.cell1
  have hs := h.small
  have hl := h.len
  obtain ⟨b, off, e, hlt, hcc⟩ := h.bytes.at' h.pos
  cases e
  have p0 := hcc 0 h.pos
  rw [Nat.add_zero] at p0
  have q0 : (0 : Int) < D.bn := by have := h.pos; omega
  have HR := hid h
  have hr1 : Sc.rn D.cl c (D.ps.drop 1) ≤ D.ps.length := by
    have h4 : Sc.rn D.cl c (D.ps.drop 1) ≤ (D.ps.drop 1).length := Sc.tw_le _ _
    rw [List.length_drop] at h4
    omega
  have R1 := hid (run1_calls h c hc 1 (by omega) w.heap.size rfl)
  have R0 := hid (run1_calls h c hc 0 (by omega) w.heap.size rfl)
  rw [List.drop_zero] at R0
  obtain ⟨y, hy⟩ : ∃ y, D.f 0 = y := ⟨_, rfl⟩
  rw [hy] at p0 HL
  have HL := hid (show Sc.led D.cl c D.ps = if y = 32 ∧ 0 < Sc.rn D.cl c (D.ps.drop 1) then 1 + Sc.rn D.cl c (D.ps.drop 1) else Sc.rn D.cl c D.ps from HL.out)
  obtain ⟨n, hn⟩ : ∃ n, Sc.rn D.cl c (D.ps.drop 1) = n := ⟨_, rfl⟩
  have HN := hid hn
  rw [hn] at HL R1 hr1
  clear h h1 h2 h3 h4 hcc hy hn
  go_enter Tryd.func61, Tryd.ntmps61
  by_cases h32 : y = 32
  · subst h32
    go_wp2_with fail
    refine R1.out.mono ?_
    rintro e w1 ⟨rfl, g1⟩
    by_cases hpos : 0 < n
    · have k1 : (0 : Int) < n := by omega
      have e1 : IntKind.i64.wrap (1 + (n : Int)) = 1 + n := i64_in (by omega) (by omega)
      have HE := hid (show Sc.led D.cl c D.ps = 1 + n by rw [HL.out, if_pos ⟨by simp, hpos⟩])
      rw [if_neg (by omega)] at g1
      have HG := hid g1
      clear g1 HL
      go_wp2_with fail
      go_ret
      exact ⟨ret_int (by rw [HE.out]; omega), by rw [HE.out]; exact HG.out⟩
    · have k1 : ¬ (0 : Int) < n := by omega
      have HE := hid (show Sc.led D.cl c D.ps = Sc.rn D.cl c D.ps by rw [HL.out, if_neg (fun e => hpos e.2)])
      obtain ⟨k2, a2, b2, R2, M2⟩ := g1
      have HA := hid a2
      have HM := hid M2
      have RR := hid (run1_calls R2 c hc 0 (by omega) w1.heap.size rfl)
      rw [List.drop_zero] at RR
      clear R2 M2 a2 b2 HL
      go_wp2_with fail
      refine RR.out.mono ?_
      rintro e w3 ⟨rfl, g3⟩
      have HG := hid (g3.step HA.out HM.out (m' := Sc.led D.cl c D.ps) (.inl (by rw [HE.out]; split <;> omega)))
      clear g3
      go_wp2_with fail
      go_ret
      exact ⟨ret_int (by rw [HE.out]), HG.out⟩
  · have t0 : (y == 32) = false := by simpa using h32
    have HE := hid (show Sc.led D.cl c D.ps = Sc.rn D.cl c D.ps by rw [HL.out, if_neg (fun e => h32 e.1)])
    clear HL
    go_wp2_with fail
    refine R0.out.mono ?_
    rintro e w3 ⟨rfl, g3⟩
    have HG := hid (g3.less (m' := Sc.led D.cl c D.ps) (by rw [HE.out]; split <;> omega))
    clear g3
    go_wp2_with fail
    go_ret
    exact ⟨ret_int (by rw [HE.out]), HG.out⟩
set_option maxRecDepth 100000 in
set_option maxHeartbeats 1600000 in
theorem letters_calls (h : Rd D X w k) :
    Calls Tryd.prog 63 #[.pointer (some ⟨D.o, 0, none⟩)] w fun e w' => e = .returned (.int .i64 (Sc.lett D.cl D.ps : Nat)) ∧ Gone D X w k (Sc.lett D.cl D.ps) w' := by
  have hs := h.small
  have hl := h.len
  have HC := hid (class_calls h 0 (by omega))
  have HL := hid (show Sc.lett D.cl D.ps = if (D.clsAt 0 = 3 ∨ D.clsAt 0 = 0) ∧ 0 < Sc.rn D.cl 1 (D.ps.drop 1) then 1 + Sc.rn D.cl 1 (D.ps.drop 1) else Sc.rn D.cl 1 D.ps by rw [cls_head h]; rfl)
  obtain ⟨y, hy⟩ : ∃ y, D.clsAt 0 = y := ⟨_, rfl⟩
  rw [hy] at HC HL
  clear h hy
  go_enter Tryd.func63, Tryd.ntmps63
  go_wp2_with fail
  refine HC.out.mono ?_
  rintro e w1 ⟨rfl, g1⟩
  obtain ⟨k1, a1, b1, R1, M1⟩ := g1
  have R1 := hid R1
  have HA := hid a1
  have HM := hid M1
  clear a1 b1 M1 HC
  by_cases h3 : y = 3
  · have HY := hid (show y = 3 ∨ y = 0 from .inl h3)
    subst h3
    have RR := hid (run1_calls R1.out 1 (by omega) 1 (by omega) w1.heap.size rfl)
    obtain ⟨n, hn⟩ : ∃ n, Sc.rn D.cl 1 (D.ps.drop 1) = n := ⟨_, rfl⟩
    have hr1 : n ≤ D.ps.length := by
      have h4 : Sc.rn D.cl 1 (D.ps.drop 1) ≤ (D.ps.drop 1).length := Sc.tw_le _ _
      rw [List.length_drop] at h4
      omega
    have HN := hid hn
    rw [hn] at RR
    clear hn
    go_wp2_with fail
    refine RR.out.mono ?_
    rintro e w2 ⟨rfl, g2⟩
    by_cases hpos : 0 < n
    · have k1 : (0 : Int) < n := by omega
      have e1 : IntKind.i64.wrap (1 + (n : Int)) = 1 + n := i64_in (by omega) (by omega)
      have HE := hid (show Sc.lett D.cl D.ps = 1 + n by rw [HL.out, HN.out, if_pos ⟨HY.out, hpos⟩])
      rw [if_neg (by omega)] at g2
      have HG := hid (g2.step HA.out HM.out (m' := Sc.lett D.cl D.ps) (.inl (by rw [HE.out]; exact Nat.le_refl _)))
      clear g2
      go_wp2_with fail
      go_ret
      exact ⟨ret_int (by rw [HE.out]; omega), HG.out⟩
    · have k1 : ¬ (0 : Int) < n := by omega
      have HE := hid (show Sc.lett D.cl D.ps = Sc.rn D.cl 1 D.ps by rw [HL.out, HN.out, if_neg (fun e => hpos e.2)])
      obtain ⟨k2, a2, b2, R2, M2⟩ := g2
      have HA2 := hid (Nat.le_trans HA.out a2)
      have HM2 := hid (HM.out.trans M2 (fun _ _ e => e))
      have R3 := hid (run1_calls R2 1 (by omega) 0 (by omega) w2.heap.size rfl)
      rw [List.drop_zero] at R3
      clear R2 M2 a2 b2
      go_wp2_with fail
      refine R3.out.mono ?_
      rintro e w3 ⟨rfl, g3⟩
      have HG := hid (g3.step HA2.out HM2.out (m' := Sc.lett D.cl D.ps) (.inl (by rw [HE.out]; split <;> omega)))
      clear g3
      go_wp2_with fail
      go_ret
      exact ⟨ret_int (by rw [HE.out]), HG.out⟩
  · have t3 : (y == 3) = false := by simpa using h3
    by_cases h0 : y = 0
    · have HY := hid (show y = 3 ∨ y = 0 from .inr h0)
      subst h0
      have RR := hid (run1_calls R1.out 1 (by omega) 1 (by omega) w1.heap.size rfl)
      obtain ⟨n, hn⟩ : ∃ n, Sc.rn D.cl 1 (D.ps.drop 1) = n := ⟨_, rfl⟩
      have hr1 : n ≤ D.ps.length := by
        have h4 : Sc.rn D.cl 1 (D.ps.drop 1) ≤ (D.ps.drop 1).length := Sc.tw_le _ _
        rw [List.length_drop] at h4
        omega
      have HN := hid hn
      rw [hn] at RR
      clear hn
      go_wp2_with fail
      refine RR.out.mono ?_
      rintro e w2 ⟨rfl, g2⟩
      by_cases hpos : 0 < n
      · have k1 : (0 : Int) < n := by omega
        have e1 : IntKind.i64.wrap (1 + (n : Int)) = 1 + n := i64_in (by omega) (by omega)
        have HE := hid (show Sc.lett D.cl D.ps = 1 + n by rw [HL.out, HN.out, if_pos ⟨HY.out, hpos⟩])
        rw [if_neg (by omega)] at g2
        have HG := hid (g2.step HA.out HM.out (m' := Sc.lett D.cl D.ps) (.inl (by rw [HE.out]; exact Nat.le_refl _)))
        clear g2
        go_wp2_with fail
        go_ret
        exact ⟨ret_int (by rw [HE.out]; omega), HG.out⟩
      · have k1 : ¬ (0 : Int) < n := by omega
        have HE := hid (show Sc.lett D.cl D.ps = Sc.rn D.cl 1 D.ps by rw [HL.out, HN.out, if_neg (fun e => hpos e.2)])
        obtain ⟨k2, a2, b2, R2, M2⟩ := g2
        have HA2 := hid (Nat.le_trans HA.out a2)
        have HM2 := hid (HM.out.trans M2 (fun _ _ e => e))
        have R3 := hid (run1_calls R2 1 (by omega) 0 (by omega) w2.heap.size rfl)
        rw [List.drop_zero] at R3
        clear R2 M2 a2 b2
        go_wp2_with fail
        refine R3.out.mono ?_
        rintro e w3 ⟨rfl, g3⟩
        have HG := hid (g3.step HA2.out HM2.out (m' := Sc.lett D.cl D.ps) (.inl (by rw [HE.out]; split <;> omega)))
        clear g3
        go_wp2_with fail
        go_ret
        exact ⟨ret_int (by rw [HE.out]), HG.out⟩
    · have t0 : (y == 0) = false := by simpa using h0
      have HE := hid (show Sc.lett D.cl D.ps = Sc.rn D.cl 1 D.ps by rw [HL.out, if_neg (fun e => e.1.elim h3 h0)])
      have R3 := hid (run1_calls R1.out 1 (by omega) 0 (by omega) w1.heap.size rfl)
      rw [List.drop_zero] at R3
      clear HL h3 h0
      go_wp2_with fail
      refine R3.out.mono ?_
      rintro e w3 ⟨rfl, g3⟩
      have HG := hid (g3.step HA.out HM.out (m' := Sc.lett D.cl D.ps) (.inl (by rw [HE.out]; split <;> omega)))
      clear g3
      go_wp2_with fail
      go_ret
      exact ⟨ret_int (by rw [HE.out]), HG.out⟩
set_option maxRecDepth 100000 in
set_option maxHeartbeats 1600000 in
theorem numbers_calls (h : Rd D X w k) :
    Calls Tryd.prog 64 #[.pointer (some ⟨D.o, 0, none⟩)] w fun e w' => e = .returned (.int .i64 (Sc.three D.cl D.ps : Nat)) ∧ Gone D X w k (Sc.three D.cl D.ps) w' := by
  have hs := h.small
  have hl := h.len
  have HR := hid h
  have hrun : D.run [2] 0 = Sc.rn D.cl 2 D.ps := by rw [D.run_one]; rfl
  clear h
  obtain ⟨N, hN⟩ : ∃ N, Sc.rn D.cl 2 D.ps = N := ⟨_, rfl⟩
  have H3 := hid (show Sc.three D.cl D.ps = min 3 N by unfold Sc.three; rw [hN])
  rw [hN] at hrun
  have HRun := hid hrun
  clear hN hrun
  go_enter Tryd.func64, Tryd.ntmps64
  go_wp2_with fail
  go_loopg [3] 3 (fun r nv wr => ∃ n : Nat, r = 3 - n ∧ nv = .int .i64 (n : Int) ∧ n ≤ 3 ∧ n ≤ N ∧ Hid (Gone D X w k n wr))
  case atStart => exact ⟨0, rfl, rfl, by omega, by omega, hid ((Gone.refl HR.out).less (Nat.zero_le _))⟩
  case round =>
    obtain ⟨n, rfl, rfl, hn3, hnN, HG⟩ := hrel
    obtain ⟨k1, a1, b1, R1, M1⟩ := HG.out
    have e2 : IntKind.i64.wrap ((n : Int) + 1) = n + 1 := i64_in (by omega) (by omega)
    by_cases hlt : n < 3
    · have k3 : (n : Int) < 3 := by omega
      have HC := hid (class_calls R1 n (by omega))
      have HMem := hid (run_mem (D := D) (cs := [2]) (i := 0) (n := n) (by intro c hc; simp at hc; omega) (by rw [HRun.out]; exact hnN))
      have HHas := hid (fun hlt => run_has (D := D) (cs := [2]) (i := 0) (n := n) hlt)
      rw [HRun.out, Nat.zero_add] at HMem
      rw [HRun.out, Nat.zero_add] at HHas
      obtain ⟨y, hy⟩ : ∃ y, D.clsAt n = y := ⟨_, rfl⟩
      rw [hy] at HC HMem
      have HA := hid a1
      have HB := hid b1
      have HM := hid M1
      clear R1 M1 a1 b1 hy HG
      go_wp2_with fail
      refine HC.out.mono ?_
      rintro e w2 ⟨rfl, g2⟩
      by_cases hy2 : y = 2
      · have hnl : n < N := HMem.out.1 (by rw [hy2]; simp)
        have HG := hid (g2.step HA.out HM.out (m' := n + 1) (.inl (by rw [(Dt.has_yes (HHas.out hnl)).2]; exact Nat.le_refl _)))
        have HL := hid hnl
        subst hy2
        clear g2 HC HMem HHas hnl
        go_wp2_with fail
        go_roundg (3 - (n + 1))
        case measure => omega
        case rel => exact ⟨n + 1, rfl, by go_num, by omega, by have := HL.out; omega, HG⟩
      · have t2 : (y == 2) = false := by simpa using hy2
        have hnl : ¬ n < N := fun h => hy2 (by simpa using HMem.out.2 h)
        have HE := hid (show Sc.three D.cl D.ps = n by rw [H3.out]; omega)
        have HG := hid (g2.step HA.out HM.out (m' := n) (.inr HB.out))
        clear g2 HC HMem HHas hnl hy2
        go_wp2_with fail
        go_ret
        exact ⟨ret_int (by rw [HE.out]), by rw [HE.out]; exact HG.out⟩
    · have k3 : ¬ (n : Int) < 3 := by omega
      have HE := hid (show Sc.three D.cl D.ps = n by rw [H3.out]; omega)
      clear R1 M1 a1 b1
      go_wp2_with fail
      go_ret
      exact ⟨ret_int (by rw [HE.out]), by rw [HE.out]; exact HG.out⟩
theorem lastL_back {cl : Int → Int} : ∀ {n : Nat} {l : List Int}, n < l.length → Sc.lastL cl (n + 1) l = if cl (Pr.it l n) = 4 then n + 1 else Sc.lastL cl n l
  | _, [], h => by simp at h
  | 0, p :: l, _ => by
    unfold Sc.lastL
    have : Sc.lastL cl 0 l = 0 := by unfold Sc.lastL; rfl
    rw [this, if_neg (by omega)]
    rfl
  | n + 1, p :: l, h => by
    have ih := lastL_back (cl := cl) (n := n) (l := l) (by simpa using h)
    have e1 : Sc.lastL cl (n + 1 + 1) (p :: l) = if 0 < Sc.lastL cl (n + 1) l then Sc.lastL cl (n + 1) l + 1 else if cl p = 4 then 1 else 0 := rfl
    have e2 : Sc.lastL cl (n + 1) (p :: l) = if 0 < Sc.lastL cl n l then Sc.lastL cl n l + 1 else if cl p = 4 then 1 else 0 := rfl
    have e3 : Pr.it (p :: l) (n + 1) = Pr.it l n := rfl
    rw [e1, e2, e3, ih]
    by_cases hc : cl (Pr.it l n) = 4
    · rw [if_pos hc, if_pos hc, if_pos (by omega)]
    · rw [if_neg hc, if_neg hc]
set_option maxRecDepth 100000 in
set_option maxHeartbeats 1600000 in
theorem lines_calls (h : Rd D X w k) :
    Calls Tryd.prog 65 #[.pointer (some ⟨D.o, 0, none⟩)] w fun e w' => e = .returned (.int .i64 (Sc.lastL D.cl (Sc.sp D.cl D.ps) D.ps : Nat)) ∧ Gone D X w k (Sc.lastL D.cl (Sc.sp D.cl D.ps) D.ps) w' := by
  have hs := h.small
  have hl := h.len
  have HC := hid (gap_calls h)
  have hsp : Sc.sp D.cl D.ps ≤ D.ps.length := Sc.tw_le _ _
  obtain ⟨S, hS⟩ : ∃ S, Sc.sp D.cl D.ps = S := ⟨_, rfl⟩
  rw [hS] at HC hsp ⊢
  obtain ⟨N, hN⟩ : ∃ N, Sc.lastL D.cl S D.ps = N := ⟨_, rfl⟩
  have HN := hid hN
  have hNS : N ≤ S := by rw [← hN]; exact Sc.lastL_le _ _
  rw [hN]
  clear h hS hN
  go_enter Tryd.func65, Tryd.ntmps65
  go_wp2_with fail
  refine HC.out.mono ?_
  rintro e w1 ⟨rfl, g1⟩
  have G1 := hid g1
  clear g1 HC
  go_wp2_with fail
  go_loopg [3] S (fun r nv wr => ∃ n : Nat, n = r ∧ nv = .int .i64 (n : Int) ∧ n ≤ S ∧ Hid (Sc.lastL D.cl n D.ps = N) ∧ Hid (Gone D X w k S wr))
  case atStart => exact ⟨S, rfl, rfl, Nat.le_refl _, HN, G1⟩
  case round =>
    obtain ⟨n, rfl, rfl, hn, HI, HG⟩ := hrel
    obtain ⟨k1, a1, b1, R1, M1⟩ := HG.out
    by_cases h0 : n = 0
    · subst h0
      have hz : N = 0 := by rw [← HI.out]; unfold Sc.lastL; rfl
      have HG2 := hid (HG.out.less (m' := N) (by omega))
      have HZ := hid hz
      clear R1 M1 a1 b1 HG HI hz
      go_wp2_with fail
      go_ret
      exact ⟨ret_int (by first | rw [HZ.out] | (rw [HZ.out]; rfl)), HG2.out⟩
    · obtain ⟨m, rfl⟩ : ∃ m, n = m + 1 := ⟨n - 1, by omega⟩
      have hb := lastL_back (cl := D.cl) (n := m) (l := D.ps) (by omega)
      rw [HI.out] at hb
      have HB := hid hb
      have e1 : IntKind.i64.wrap (((m + 1 : Nat) : Int) - 1) = m := by rw [i64_in (by omega) (by omega)]; omega
      have k3 : (0 : Int) < ((m + 1 : Nat) : Int) := by omega
      have HC := hid (class_calls R1 m (by omega))
      have HY := hid (show D.clsAt m = D.cl (Pr.it D.ps m) from if_pos (by omega))
      rw [HY.out] at HC
      obtain ⟨y, hy⟩ : ∃ y, D.cl (Pr.it D.ps m) = y := ⟨_, rfl⟩
      rw [hy] at HC HB
      have HA := hid a1
      have HBb := hid b1
      have HM := hid M1
      obtain ⟨M, hM⟩ : ∃ M : Nat, M = m + 1 := ⟨_, rfl⟩
      rw [← hM] at e1 k3
      have HMM := hid hM
      rw [← hM]
      clear R1 M1 a1 b1 hy hb HG hM HY
      go_wp2_with fail
      refine HC.out.mono ?_
      rintro e w2 ⟨rfl, g2⟩
      have HG := hid (g2.step HA.out HM.out (m' := S) (.inr HBb.out))
      clear g2 HC
      by_cases hy4 : y = 4
      · have HE := hid (show N = M by rw [HB.out, if_pos hy4, HMM.out])
        subst hy4
        have HG2 := hid (HG.out.less (m' := N) hNS)
        clear HG HI
        go_wp2_with fail
        go_ret
        exact ⟨ret_int (by rw [HE.out]), HG2.out⟩
      · have t4 : (y != 4) = true := by simpa using hy4
        have HI2 := hid (show Sc.lastL D.cl m D.ps = N by rw [HB.out, if_neg hy4])
        clear HI hy4
        go_wp2_with fail
        go_roundg m
        case measure => omega
        case rel => exact ⟨m, rfl, rfl, by omega, HI2, HG⟩
set_option maxRecDepth 100000 in
set_option maxHeartbeats 1600000 in
theorem spaces'_calls (h : Rd D X w k) :
    Calls Tryd.prog 62 #[.pointer (some ⟨D.o, 0, none⟩)] w fun e w' => PieceR D X w k (Sc.blanks D.cl D.ps) e w' := by
  have hs := h.small
  have hl := h.len
  have HC := hid (gap_calls h)
  have hsp : Sc.sp D.cl D.ps ≤ D.ps.length := Sc.tw_le _ _
  have HB := hid (show Sc.blanks D.cl D.ps = if Sc.sp D.cl D.ps < D.ps.length ∧ 2 ≤ Sc.sp D.cl D.ps then (Sc.sp D.cl D.ps - 1, Sc.sp D.cl D.ps + 1) else Sc.more (Sc.sp D.cl D.ps) from rfl)
  obtain ⟨S, hS⟩ : ∃ S, Sc.sp D.cl D.ps = S := ⟨_, rfl⟩
  rw [hS] at HC hsp HB
  clear h hS
  have e2 : IntKind.i64.wrap ((S : Int) + 1) = S + 1 := i64_in (by omega) (by omega)
  have e3 : IntKind.i64.wrap ((S : Int) - 1) = S - 1 := i64_in (by omega) (by omega)
  go_enter Tryd.func62, Tryd.ntmps62
  go_wp2_with fail
  refine HC.out.mono ?_
  rintro e w1 ⟨rfl, g1⟩
  have G1 := hid g1
  clear g1 HC
  by_cases h2 : 2 ≤ S
  · have k2 : (2 : Int) ≤ S := by omega
    obtain ⟨k1, a1, b1, R1, M1⟩ := G1.out
    have HC := hid (has_calls R1 S (by omega))
    have HA := hid a1
    have HBb := hid b1
    have HM := hid M1
    clear R1 M1 a1 b1
    go_wp2_with fail
    refine HC.out.mono ?_
    rintro e w2 ⟨rfl, g2⟩
    have HG := hid (g2.step HA.out HM.out (m' := S) (.inr HBb.out))
    clear g2 HC
    by_cases hlt : S < D.ps.length
    · rw [(Dt.has_yes hlt).1]
      have HE := hid (show Sc.blanks D.cl D.ps = (S - 1, S + 1) by rw [HB.out, if_pos ⟨hlt, h2⟩])
      clear HB
      go_wp2_with fail
      go_ret2
      unfold PieceR
      rw [HE.out]
      exact ⟨ret_pair (by omega) (by omega), HG.out.less (by omega)⟩
    · rw [(Dt.has_no hlt).1]
      have HE := hid (show Sc.blanks D.cl D.ps = (S, S + 1) by rw [HB.out, if_neg (fun e => hlt e.1)]; rfl)
      clear HB
      go_wp2_with fail
      go_ret2
      unfold PieceR
      rw [HE.out]
      exact ⟨ret_pair (by omega) (by omega), HG.out⟩
  · have k2 : ¬ (2 : Int) ≤ S := by omega
    have HE := hid (show Sc.blanks D.cl D.ps = (S, S + 1) by rw [HB.out, if_neg (fun e => h2 e.2)]; rfl)
    clear HB
    go_wp2_with fail
    go_ret2
    unfold PieceR
    rw [HE.out]
    exact ⟨ret_pair (by omega) (by omega), G1.out⟩
end
end Go.Proofs.YtiheagkgpbkkfaaDoor
