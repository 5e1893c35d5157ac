/-
  Several texts in one: ScR1, ScR2, ScR3, ScR4, ScR5, ScR6, ScR7.
-/
import Derived.Test.YtiheagkgpbkkfaaDoorChecked
import Derived.Test.YtiheagkgpbkkfaaDoorLotS
import Derived.Test.YtiheagkgpbkkfaaDoorLotG
import Derived.Deep.LoopGhost
import Derived.Deep.RegionHeld3
import Derived.BigQuiet
import Derived.Deep.QuietTactic
import Derived.Lib.QuietBelow
/-
  The reference's rows of points in memory: row, spaces, are, led, more, blanks.
-/
namespace Go.Proofs.YtiheagkgpbkkfaaDoor
open Go.RowKit
open Sc
set_option linter.unusedVariables false
/-- Points, their classes, how many bytes each has, how many are sure: a struct of four, in memory. -/
structure Lm (w : World) (v : Value) (cl : Int → Int) (ps : List Int) (ns : List Nat) (sure : Nat) : Prop where
  ex : ∃ a1 n1 c1 a2 n2 c2 a3 n3 c3, v = .agg #[.slice a1 n1 c1, .slice a2 n2 c2, .slice a3 n3 c3, .int .i64 (sure : Int)] ∧ Ir w a1 n1 c1 ps ∧ Ir w a2 n2 c2 (ps.map cl) ∧ Ir w a3 n3 c3 (ns.map (fun (k : Nat) => (k : Int)))
  len : ps.length ≤ 100000
theorem Lm.below {w w' : World} {v : Value} {cl : Int → Int} {ps : List Int} {ns : List Nat} {sure : Nat} (h : Lm w v cl ps ns sure) (hb : Below w.heap.size w w') : Lm w' v cl ps ns sure := by
  obtain ⟨a1, n1, c1, a2, n2, c2, a3, n3, c3, e, h1, h2, h3⟩ := h.ex
  exact ⟨⟨a1, n1, c1, a2, n2, c2, a3, n3, c3, e, h1.below hb, h2.below hb, h3.below hb⟩, h.len⟩
theorem it_map (cl : Int → Int) (ps : List Int) {i : Nat} (h : i < ps.length) : Pr.it (ps.map cl) i = cl (Pr.it ps i) := by
  unfold Pr.it
  simp [List.getD_eq_getElem?_getD, h]
/-- In a row from a place on: one more. -/
theorem tw_at {q : Int → Bool} {l : List Int} {i n : Nat} (hn : n = tw q (l.drop i)) : (∀ k, k < n → i + k < l.length ∧ q (Pr.it l (i + k)) = true) ∧ (i + n < l.length → q (Pr.it l (i + n)) = false) := by
  subst hn
  induction l generalizing i with
  | nil => exact ⟨fun k hk => by simp [tw] at hk, fun h => by simp at h⟩
  | cons p l ih =>
    cases i with
    | succ i =>
      obtain ⟨h1, h2⟩ := ih (i := i)
      simp only [List.drop_succ_cons, List.length_cons]
      refine ⟨fun k hk => ?_, fun h => ?_⟩
      · obtain ⟨a, b⟩ := h1 k hk
        refine ⟨by omega, ?_⟩
        rw [show i + 1 + k = (i + k) + 1 by omega]
        simpa [Pr.it] using b
      · have := h2 (by omega)
        rw [show i + 1 + tw q (l.drop i) = (i + tw q (l.drop i)) + 1 by omega]
        simpa [Pr.it] using this
    | zero =>
      obtain ⟨h1, h2⟩ := ih (i := 0)
      simp only [List.drop_zero, Nat.zero_add, List.length_cons] at h1 h2 ⊢
      cases hq : q p with
      | false =>
        rw [tw_cons_no hq]
        exact ⟨fun k hk => by omega, fun _ => by simpa [Pr.it] using hq⟩
      | true =>
        rw [tw_cons_yes hq]
        refine ⟨fun k hk => ?_, fun h => ?_⟩
        · cases k with
          | zero => exact ⟨by omega, by simpa [Pr.it] using hq⟩
          | succ k =>
            obtain ⟨a, b⟩ := h1 k (by omega)
            exact ⟨by omega, by simpa [Pr.it] using b⟩
        · have := h2 (by omega)
          simpa [Pr.it] using this
/-- A struct of four cells in a block. -/
def B4 (w : World) (K : Nat) (x0 x1 x2 x3 : Value) : Prop := w.heap[K]? = some (.cells #[x0, x1, x2, x3] 61 (0, 0))
theorem B4.c0 {w : World} {K : Nat} {x0 x1 x2 x3 : Value} (h : B4 w K x0 x1 x2 x3) : w.cell? ⟨K, 0, none⟩ = some x0 := by simp only [World.cell?, show w.heap[K]? = _ from h]; rfl
theorem B4.c1 {w : World} {K : Nat} {x0 x1 x2 x3 : Value} (h : B4 w K x0 x1 x2 x3) : w.cell? ⟨K, 1, none⟩ = some x1 := by simp only [World.cell?, show w.heap[K]? = _ from h]; rfl
theorem B4.c2 {w : World} {K : Nat} {x0 x1 x2 x3 : Value} (h : B4 w K x0 x1 x2 x3) : w.cell? ⟨K, 2, none⟩ = some x2 := by simp only [World.cell?, show w.heap[K]? = _ from h]; rfl
theorem B4.c3 {w : World} {K : Nat} {x0 x1 x2 x3 : Value} (h : B4 w K x0 x1 x2 x3) : w.cell? ⟨K, 3, none⟩ = some x3 := by simp only [World.cell?, show w.heap[K]? = _ from h]; rfl
theorem B4.below {w w' : World} {K : Nat} {x0 x1 x2 x3 : Value} (h : B4 w K x0 x1 x2 x3) (hb : Below w.heap.size w w') : B4 w' K x0 x1 x2 x3 := (hb.block K (Array.getElem?_eq_some_iff.1 h).1).trans h
theorem isC_iff {cl : Int → Int} {c p : Int} : isC cl c p = (cl p == c) := rfl
section
variable {w : World} {v : Value} {cl : Int → Int} {ps : List Int} {ns : List Nat} {sure : Nat}
set_option maxRecDepth 100000 in
set_option maxHeartbeats 3200000 in
theorem lrow_calls (h : Lm w v cl ps ns sure) (i : Nat) (c : Int) (hi : i ≤ ps.length + 2) :
    Calls Tryd.prog 47 #[v, .int .i64 (i : Int), .int .i64 c] w fun e w' => e = .returned (.int .i64 (rn cl c (ps.drop i) : Nat)) ∧ Below w.heap.size w w' := by
  obtain ⟨a1, n1, c1, a2, n2, c2, a3, n3, c3, rfl, h1, h2, h3⟩ := h.ex
  have hl2 := h2.len
  rw [List.length_map] at hl2
  have hlen := h.len
  obtain ⟨N, hN⟩ : ∃ N, N = rn cl c (ps.drop i) := ⟨_, rfl⟩
  have HT := hid (tw_at (q := isC cl c) hN)
  have hNle : N ≤ ps.length := by
    have h4 : rn cl c (ps.drop i) ≤ (ps.drop i).length := tw_le _ _
    rw [List.length_drop] at h4
    omega
  have H2 := hid h2
  have B0 := hid ((Below.refl w.heap.size w).alloc (Nat.le_refl _) (.cells #[.slice a1 n1 c1, .slice a2 n2 c2, .slice a3 n3 c3, .int .i64 (sure : Int)] 61))
  have K0 := hid (show B4 (w.alloc (.cells #[.slice a1 n1 c1, .slice a2 n2 c2, .slice a3 n3 c3, .int .i64 (sure : Int)] 61)) w.heap.size (.slice a1 n1 c1) (.slice a2 n2 c2) (.slice a3 n3 c3) (.int .i64 (sure : Int)) from heap_alloc_new w _)
  rw [← hN]
  clear h h1 h2 h3 hN
  go_enter Tryd.func47, Tryd.ntmps47
  go_wp2_with fail
  obtain ⟨K, hK⟩ : ∃ K, w.heap.size = K := ⟨_, rfl⟩
  obtain ⟨W, hW⟩ : ∃ W, w.alloc (.cells #[.slice a1 n1 c1, .slice a2 n2 c2, .slice a3 n3 c3, .int .i64 (sure : Int)] 61) = W := ⟨_, rfl⟩
  have H3 := hid (H2.out.below (by rw [← hW]; exact (Below.refl w.heap.size w).alloc (Nat.le_refl _) _) : Ir W a2 n2 c2 (ps.map cl))
  rw [hW, hK] at K0
  rw [hW] at B0
  rw [hW, hK]
  clear hW hK H2
  go_loopg [7] N (fun r kv wr => ∃ k : Nat, r = N - k ∧ kv = .int .i64 (k : Int) ∧ k ≤ N ∧ wr = W)
  case atStart => exact ⟨0, rfl, rfl, by omega, rfl⟩
  case round =>
    obtain ⟨k, rfl, rfl, hk, rfl⟩ := hrel
    have k0 : (0 : Int) ≤ k := by omega
    have e1 : IntKind.i64.wrap ((i : Int) + k) = ((i + k : Nat) : Int) := by rw [i64_in (by omega) (by omega)]; omega
    have e2 : IntKind.i64.wrap ((k : Int) + 1) = k + 1 := i64_in (by omega) (by omega)
    have d1 := K0.out.c1
    by_cases hlt : k < N
    · obtain ⟨hb, hq⟩ := HT.out.1 k hlt
      obtain ⟨b, off, rfl, hbl, hc⟩ := H3.out.at' (by omega)
      have p0 := hc (i + k) (by omega)
      rw [it_map cl ps hb] at p0
      obtain ⟨J, hJ⟩ : ∃ J : Nat, J = i + k := ⟨_, rfl⟩
      rw [← hJ] at p0 e1 hb hq
      obtain ⟨y, hy⟩ : ∃ y, cl (Pr.it ps J) = y := ⟨_, rfl⟩
      have t1 : (y == c) = true := by rw [← hy]; exact hq
      rw [hy] at p0
      have k1 : (J : Int) < n2 := by omega
      have k2 : (0 : Int) ≤ J := by omega
      clear hc hy hq hJ
      go_wp2_with fail
      go_roundg (N - (k + 1))
      case measure => omega
      case rel => exact ⟨k + 1, rfl, by go_num, by omega, rfl⟩
    · obtain rfl : k = N := by omega
      by_cases hb : i + k < ps.length
      · have hq := HT.out.2 hb
        obtain ⟨b, off, rfl, hbl, hc⟩ := H3.out.at' (by omega)
        have p0 := hc (i + k) (by omega)
        rw [it_map cl ps hb] at p0
        obtain ⟨J, hJ⟩ : ∃ J : Nat, J = i + k := ⟨_, rfl⟩
        rw [← hJ] at p0 e1 hb hq
        obtain ⟨y, hy⟩ : ∃ y, cl (Pr.it ps J) = y := ⟨_, rfl⟩
        have t1 : (y == c) = false := by rw [← hy]; exact hq
        rw [hy] at p0
        have k1 : (J : Int) < n2 := by omega
        have k2 : (0 : Int) ≤ J := by omega
        clear hc hy hq hJ
        go_wp2_with fail
        go_ret
        exact ⟨rfl, B0.out⟩
      · obtain ⟨J, hJ⟩ : ∃ J : Nat, J = i + k := ⟨_, rfl⟩
        rw [← hJ] at e1 hb
        have k1 : ¬ (J : Int) < n2 := by omega
        clear hJ
        go_wp2_with fail
        go_ret
        exact ⟨rfl, B0.out⟩
set_option maxRecDepth 100000 in
set_option maxHeartbeats 3200000 in
theorem spaces_calls (h : Lm w v cl ps ns sure) (i : Nat) (hi : i ≤ ps.length + 2) :
    Calls Tryd.prog 42 #[v, .int .i64 (i : Int)] w fun e w' => e = .returned (.int .i64 (sp cl (ps.drop i) : Nat)) ∧ Below w.heap.size w w' := by
  obtain ⟨a1, n1, c1, a2, n2, c2, a3, n3, c3, rfl, h1, h2, h3⟩ := h.ex
  have hl2 := h2.len
  rw [List.length_map] at hl2
  have hlen := h.len
  obtain ⟨N, hN⟩ : ∃ N, N = sp cl (ps.drop i) := ⟨_, rfl⟩
  have HT := hid (tw_at (q := isS cl) hN)
  have hNle : N ≤ ps.length := by
    have h4 : sp cl (ps.drop i) ≤ (ps.drop i).length := tw_le _ _
    rw [List.length_drop] at h4
    omega
  have H2 := hid h2
  have B0 := hid ((Below.refl w.heap.size w).alloc (Nat.le_refl _) (.cells #[.slice a1 n1 c1, .slice a2 n2 c2, .slice a3 n3 c3, .int .i64 (sure : Int)] 61))
  have K0 := hid (show B4 (w.alloc (.cells #[.slice a1 n1 c1, .slice a2 n2 c2, .slice a3 n3 c3, .int .i64 (sure : Int)] 61)) w.heap.size (.slice a1 n1 c1) (.slice a2 n2 c2) (.slice a3 n3 c3) (.int .i64 (sure : Int)) from heap_alloc_new w _)
  rw [← hN]
  clear h h1 h2 h3 hN
  go_enter Tryd.func42, Tryd.ntmps42
  go_wp2_with fail
  obtain ⟨K, hK⟩ : ∃ K, w.heap.size = K := ⟨_, rfl⟩
  obtain ⟨W, hW⟩ : ∃ W, w.alloc (.cells #[.slice a1 n1 c1, .slice a2 n2 c2, .slice a3 n3 c3, .int .i64 (sure : Int)] 61) = W := ⟨_, rfl⟩
  have H3 := hid (H2.out.below (by rw [← hW]; exact (Below.refl w.heap.size w).alloc (Nat.le_refl _) _) : Ir W a2 n2 c2 (ps.map cl))
  rw [hW, hK] at K0
  rw [hW] at B0
  rw [hW, hK]
  clear hW hK H2
  go_loopg [5] N (fun r kv wr => ∃ k : Nat, r = N - k ∧ kv = .int .i64 (k : Int) ∧ k ≤ N ∧ wr = W)
  case atStart => exact ⟨0, rfl, rfl, by omega, rfl⟩
  case round =>
    obtain ⟨k, rfl, rfl, hk, rfl⟩ := hrel
    have k0 : (0 : Int) ≤ k := by omega
    have e1 : IntKind.i64.wrap ((i : Int) + k) = ((i + k : Nat) : Int) := by rw [i64_in (by omega) (by omega)]; omega
    have e2 : IntKind.i64.wrap ((k : Int) + 1) = k + 1 := i64_in (by omega) (by omega)
    have d1 := K0.out.c1
    by_cases hlt : k < N
    · obtain ⟨hb, hq⟩ := HT.out.1 k hlt
      obtain ⟨b, off, rfl, hbl, hc⟩ := H3.out.at' (by omega)
      have p0 := hc (i + k) (by omega)
      rw [it_map cl ps hb] at p0
      obtain ⟨J, hJ⟩ : ∃ J : Nat, J = i + k := ⟨_, rfl⟩
      rw [← hJ] at p0 e1 hb hq
      unfold isS at hq
      obtain ⟨y, hy⟩ : ∃ y, cl (Pr.it ps J) = y := ⟨_, rfl⟩
      rw [hy] at p0 hq
      have k1 : (J : Int) < n2 := by omega
      have k2 : (0 : Int) ≤ J := by omega
      clear hc hy hJ
      cases t3 : (y == 3) with
      | true =>
        clear hq
        go_wp2_with fail
        go_roundg (N - (k + 1))
        case measure => omega
        case rel => exact ⟨k + 1, rfl, by go_num, by omega, rfl⟩
      | false =>
        have t4 : (y == 4) = true := by rw [t3, Bool.false_or] at hq; exact hq
        clear hq
        go_wp2_with fail
        go_roundg (N - (k + 1))
        case measure => omega
        case rel => exact ⟨k + 1, rfl, by go_num, by omega, rfl⟩
    · obtain rfl : k = N := by omega
      by_cases hb : i + k < ps.length
      · have hq := HT.out.2 hb
        obtain ⟨b, off, rfl, hbl, hc⟩ := H3.out.at' (by omega)
        have p0 := hc (i + k) (by omega)
        rw [it_map cl ps hb] at p0
        obtain ⟨J, hJ⟩ : ∃ J : Nat, J = i + k := ⟨_, rfl⟩
        rw [← hJ] at p0 e1 hb hq
        unfold isS at hq
        obtain ⟨y, hy⟩ : ∃ y, cl (Pr.it ps J) = y := ⟨_, rfl⟩
        rw [hy] at p0 hq
        rw [Bool.or_eq_false_iff] at hq
        obtain ⟨t3, t4⟩ := hq
        have k1 : (J : Int) < n2 := by omega
        have k2 : (0 : Int) ≤ J := by omega
        clear hc hy hJ
        go_wp2_with fail
        go_ret
        exact ⟨rfl, B0.out⟩
      · obtain ⟨J, hJ⟩ : ∃ J : Nat, J = i + k := ⟨_, rfl⟩
        rw [← hJ] at e1 hb
        have k1 : ¬ (J : Int) < n2 := by omega
        clear hJ
        go_wp2_with fail
        go_ret
        exact ⟨rfl, B0.out⟩
set_option maxRecDepth 100000 in
set_option maxHeartbeats 3200000 in
theorem led_calls (h : Lm w v cl ps ns sure) (c : Int) (h0 : 0 < ps.length) :
    Calls Tryd.prog 45 #[v, .int .i64 c] w fun e w' => e = .returned (.int .i64 (led cl c ps : Nat)) ∧ Below w.heap.size w w' := by
  obtain ⟨a1, n1, c1, a2, n2, c2, a3, n3, c3, rfl, h1, h2, h3⟩ := h.ex
  have hl1 := h1.len
  have hlen := h.len
  have B0 := hid ((Below.refl w.heap.size w).alloc (Nat.le_refl _) (.cells #[.slice a1 n1 c1, .slice a2 n2 c2, .slice a3 n3 c3, .int .i64 (sure : Int)] 61))
  have K0 := hid (show B4 (w.alloc (.cells #[.slice a1 n1 c1, .slice a2 n2 c2, .slice a3 n3 c3, .int .i64 (sure : Int)] 61)) w.heap.size (.slice a1 n1 c1) (.slice a2 n2 c2) (.slice a3 n3 c3) (.int .i64 (sure : Int)) from heap_alloc_new w _)
  have H0 := hid (h.below B0.out)
  have HP := hid (h1.below B0.out)
  have hr1 : rn cl c (ps.drop 1) ≤ (ps.drop 1).length := tw_le _ _
  rw [List.length_drop] at hr1
  have HL := hid (show led cl c ps = if ps.head? = some 32 ∧ 0 < rn cl c (ps.drop 1) then 1 + rn cl c (ps.drop 1) else rn cl c ps from rfl)
  have hhead : ps.head? = some (Pr.it ps 0) := by
    cases ps with
    | nil => simp at h0
    | cons p l => rfl
  rw [hhead] at HL
  obtain ⟨R, hR⟩ : ∃ R, rn cl c (ps.drop 1) = R := ⟨_, rfl⟩
  have HR := hid hR
  rw [hR] at HL hr1
  obtain ⟨b, off, rfl, hbl, hc⟩ := HP.out.at' (by omega)
  have p0 := hc 0 (by omega)
  obtain ⟨y, hy⟩ : ∃ y, Pr.it ps 0 = y := ⟨_, rfl⟩
  rw [hy] at p0 HL
  rw [Nat.add_zero] at p0
  have q0 : (0 : Int) < n1 := by omega
  clear h h1 h2 h3 hc hy hhead hR HP
  have d0 := K0.out.c0
  have d1 := K0.out.c1
  have d2 := K0.out.c2
  have d3 := K0.out.c3
  have e1 : IntKind.i64.wrap (1 + (R : Int)) = ((1 + R : Nat) : Int) := by rw [i64_in (by omega) (by omega)]; omega
  go_enter Tryd.func45, Tryd.ntmps45
  by_cases h32 : y = 32
  · have t0 : (y == 32) = true := by simpa using h32
    go_wp2_with fail
    refine (lrow_calls H0.out 1 c (by omega)).mono ?_
    rintro e w1 ⟨rfl, b1⟩
    rw [HR.out]
    have K1 := hid (K0.out.below b1)
    have B1 := hid (B0.out.trans (b1.mono B0.out.size))
    have H1 := hid (H0.out.below b1)
    clear b1 d0 d1 d2 d3 p0
    have d0 := K1.out.c0
    have d1 := K1.out.c1
    have d2 := K1.out.c2
    have d3 := K1.out.c3
    by_cases hpos : 0 < R
    · have g1 : (0 : Int) < R := by omega
      have HF := hid (show led cl c ps = 1 + R by rw [HL.out, if_pos ⟨by rw [h32], hpos⟩])
      clear HL
      go_wp2_with fail
      refine (lrow_calls H1.out 1 c (by omega)).mono ?_
      rintro e w2 ⟨rfl, b2⟩
      rw [HR.out]
      have B2 := hid (B1.out.trans (b2.mono B1.out.size))
      clear b2
      go_wp2_with fail
      go_ret
      exact ⟨ret_int (by rw [HF.out]; omega), B2.out⟩
    · have g1 : ¬ (0 : Int) < R := by omega
      have HF := hid (show led cl c ps = rn cl c ps by rw [HL.out, if_neg (fun e => hpos e.2)])
      clear HL
      go_wp2_with fail
      refine (lrow_calls H1.out 0 c (by omega)).mono ?_
      rintro e w2 ⟨rfl, b2⟩
      have B2 := hid (B1.out.trans (b2.mono B1.out.size))
      clear b2
      go_wp2_with fail
      go_ret
      exact ⟨ret_int (by rw [HF.out]), B2.out⟩
  · have t0 : (y == 32) = false := by simpa using h32
    have HF := hid (show led cl c ps = rn cl c ps by rw [HL.out, if_neg (fun e => h32 (Option.some.inj e.1))])
    clear HL
    go_wp2_with fail
    refine (lrow_calls H0.out 0 c (by omega)).mono ?_
    rintro e w2 ⟨rfl, b2⟩
    have B2 := hid (B0.out.trans (b2.mono B0.out.size))
    clear b2
    go_wp2_with fail
    go_ret
    exact ⟨ret_int (by rw [HF.out]), B2.out⟩
/-- A struct of two numbers as a result: its cells as they are written. -/
theorem two_e {W : World} {R : Nat} {t : TypeId} {a b : Value} (X : W.heap[R]? = some (.cells #[a, b] t (0, 0))) (x y : Value) :
    (W.cell? ⟨R, 0, none⟩ = some a ∧ W.frozen? ⟨R, 0, none⟩ = false) ∧
    ((W.setCell ⟨R, 0, none⟩ x).cell? ⟨R, 1, none⟩ = some b ∧ (W.setCell ⟨R, 0, none⟩ x).frozen? ⟨R, 1, none⟩ = false) ∧
    ((W.setCell ⟨R, 0, none⟩ x).setCell ⟨R, 1, none⟩ y).cell? ⟨R, 0, none⟩ = some x ∧ ((W.setCell ⟨R, 0, none⟩ x).setCell ⟨R, 1, none⟩ y).cell? ⟨R, 1, none⟩ = some y := by
  have h1 : (W.setCell ⟨R, 0, none⟩ x).heap[R]? = some (.cells #[x, b] t (0, 0)) := heap_setCell_same W R 0 _ t x X
  have h2 : ((W.setCell ⟨R, 0, none⟩ x).setCell ⟨R, 1, none⟩ y).heap[R]? = some (.cells #[x, y] t (0, 0)) := heap_setCell_same _ R 1 _ t y h1
  refine ⟨⟨?_, ?_⟩, ⟨?_, ?_⟩, ?_, ?_⟩
  · simp [World.cell?, X]
  · simp [World.frozen?, X]
  · simp only [World.cell?, h1]; rfl
  · simp only [World.frozen?, h1]; rfl
  · simp only [World.cell?, h2]; rfl
  · simp only [World.cell?, h2]; rfl
theorem below_two {w W : World} {n R : Nat} (h : Below n w W) (hR : n ≤ R) (x y : Value) : Below n w ((W.setCell ⟨R, 0, none⟩ x).setCell ⟨R, 1, none⟩ y) :=
  (h.setCell (p := ⟨R, 0, none⟩) hR x).setCell (p := ⟨R, 1, none⟩) hR y
/-- A piece as a value. -/
def av (q : Nat × Nat) : Value := .agg #[.int .i64 (q.1 : Int), .int .i64 (q.2 : Int)]
set_option maxRecDepth 100000 in
set_option maxHeartbeats 1600000 in
theorem more_calls (n : Nat) (w : World) (hn : n ≤ 1000000) : Calls Tryd.prog 43 #[.int .i64 (n : Int)] w fun e w' => e = .returned (av (more n)) ∧ Below w.heap.size w w' := by
  have e1 : IntKind.i64.wrap ((n : Int) + 1) = ((n + 1 : Nat) : Int) := by rw [i64_in (by omega) (by omega)]; omega
  obtain ⟨N, hN⟩ : ∃ N : Int, N = ((n + 1 : Nat) : Int) := ⟨_, rfl⟩
  rw [← hN] at e1
  have BB := hid ((Below.refl w.heap.size w).alloc (Nat.le_refl _) (.cells #[.int .i64 (n : Int), .int .i64 N] 64))
  have HN := hid hN
  clear hN
  go_enter Tryd.func43, Tryd.ntmps43
  go_wp2_with fail
  refine bodyPost_ret (v := .agg #[.int .i64 (n : Int), .int .i64 N]) (by simp [results, Tryd.results43, go_sem]) rfl ?_
  exact ⟨by rw [HN.out]; rfl, BB.out⟩
set_option maxRecDepth 100000 in
set_option maxHeartbeats 3200000 in
theorem blanks_calls (h : Lm w v cl ps ns sure) :
    Calls Tryd.prog 46 #[v] w fun e w' => e = .returned (av (blanks cl ps)) ∧ Below w.heap.size w w' := by
  obtain ⟨a1, n1, c1, a2, n2, c2, a3, n3, c3, rfl, h1, h2, h3⟩ := h.ex
  have hl1 := h1.len
  have hlen := h.len
  have hspl : sp cl ps ≤ ps.length := tw_le _ _
  have bx : Below w.heap.size w (w.alloc (.cells #[.slice a1 n1 c1, .slice a2 n2 c2, .slice a3 n3 c3, .int .i64 (sure : Int)] 61)) := (Below.refl w.heap.size w).alloc (Nat.le_refl _) _
  have hs : (w.alloc (.cells #[.slice a1 n1 c1, .slice a2 n2 c2, .slice a3 n3 c3, .int .i64 (sure : Int)] 61)).heap.size = w.heap.size + 1 := by simp
  have bz := (Below.refl (w.alloc (.cells #[.slice a1 n1 c1, .slice a2 n2 c2, .slice a3 n3 c3, .int .i64 (sure : Int)] 61)).heap.size (w.alloc (.cells #[.slice a1 n1 c1, .slice a2 n2 c2, .slice a3 n3 c3, .int .i64 (sure : Int)] 61))).alloc (Nat.le_refl _) (.cells #[.int .i64 0, .int .i64 0] 64)
  have B0 := hid (bx.trans (bz.mono bx.size))
  have K0 := hid ((show B4 (w.alloc (.cells #[.slice a1 n1 c1, .slice a2 n2 c2, .slice a3 n3 c3, .int .i64 (sure : Int)] 61)) w.heap.size (.slice a1 n1 c1) (.slice a2 n2 c2) (.slice a3 n3 c3) (.int .i64 (sure : Int)) from heap_alloc_new w _).below bz)
  have H0 := hid (h.below B0.out)
  have hr := heap_alloc_new (w.alloc (.cells #[.slice a1 n1 c1, .slice a2 n2 c2, .slice a3 n3 c3, .int .i64 (sure : Int)] 61)) (.cells #[.int .i64 0, .int .i64 0] 64)
  rw [hs] at hr
  have HR := hid hr
  obtain ⟨N, hN⟩ : ∃ N, sp cl ps = N := ⟨_, rfl⟩
  have HB := hid (show blanks cl ps = if N < ps.length ∧ 2 ≤ N then (N - 1, N + 1) else more N by unfold blanks; rw [hN])
  rw [hN] at hspl
  have HN := hid hN
  clear h h1 h2 h3 hN hr hs bx bz
  have d0 := K0.out.c0
  have d1 := K0.out.c1
  have d2 := K0.out.c2
  have d3 := K0.out.c3
  go_enter Tryd.func46, Tryd.ntmps46
  go_wp2_with fail
  refine (spaces_calls H0.out 0 (by omega)).mono ?_
  rintro e w1 ⟨rfl, b1⟩
  rw [List.drop_zero, HN.out]
  have K1 := hid (K0.out.below b1)
  have B1 := hid (B0.out.trans (b1.mono B0.out.size))
  have R1 := hid ((b1.block _ (Array.getElem?_eq_some_iff.1 HR.out).1).trans HR.out)
  clear b1 d0 d1 d2 d3 K0 HR H0 HN
  have d0 := K1.out.c0
  by_cases hc : N < ps.length ∧ 2 ≤ N
  · have g1 : (N : Int) < n1 := by omega
    have g2 : (2 : Int) ≤ N := by omega
    have e1 : IntKind.i64.wrap ((N : Int) - 1) = ((N - 1 : Nat) : Int) := by rw [i64_in (by omega) (by omega)]; omega
    have e2 : IntKind.i64.wrap ((N : Int) + 1) = ((N + 1 : Nat) : Int) := by rw [i64_in (by omega) (by omega)]; omega
    obtain ⟨X, hX⟩ : ∃ X : Int, X = ((N - 1 : Nat) : Int) := ⟨_, rfl⟩
    obtain ⟨Y, hY⟩ : ∃ Y : Int, Y = ((N + 1 : Nat) : Int) := ⟨_, rfl⟩
    rw [← hX] at e1
    rw [← hY] at e2
    have HF := hid (show av (blanks cl ps) = .agg #[.int .i64 X, .int .i64 Y] by rw [HB.out, if_pos hc, hX, hY]; rfl)
    have hr := R1.out
    obtain ⟨⟨p0, q0⟩, ⟨u1, v1⟩, r0, r1⟩ := two_e hr (.int .i64 X) (.int .i64 Y)
    have BB := hid (below_two B1.out (R := w.heap.size + 1) (by omega) (.int .i64 X) (.int .i64 Y))
    clear hX hY hr hc HB
    go_wp2_with fail
    refine bodyPost_ret (v := .agg #[.int .i64 X, .int .i64 Y]) (by simp [results, Tryd.results46, go_sem, r0, r1]) rfl ?_
    exact ⟨by rw [HF.out], BB.out⟩
  · obtain ⟨X, hX⟩ : ∃ X : Int, X = (N : Int) := ⟨_, rfl⟩
    obtain ⟨Y, hY⟩ : ∃ Y : Int, Y = ((N + 1 : Nat) : Int) := ⟨_, rfl⟩
    have HF := hid (show av (more N) = .agg #[.int .i64 X, .int .i64 Y] ∧ av (blanks cl ps) = .agg #[.int .i64 X, .int .i64 Y] by rw [HB.out, if_neg hc, hX, hY]; exact ⟨rfl, rfl⟩)
    clear hX hY HB
    by_cases g1 : N < ps.length
    · have g3 : (N : Int) < n1 := by omega
      have g2 : ¬ (2 : Int) ≤ N := by omega
      clear hc
      go_wp2_with fail
      refine (more_calls N _ (by omega)).mono ?_
      rintro e w2 ⟨rfl, b2⟩
      rw [HF.out.1]
      have hr := (b2.block _ (Array.getElem?_eq_some_iff.1 R1.out).1).trans R1.out
      have B2 := hid (B1.out.trans (b2.mono B1.out.size))
      obtain ⟨⟨p0, q0⟩, ⟨u1, v1⟩, r0, r1⟩ := two_e hr (.int .i64 X) (.int .i64 Y)
      have BB := hid (below_two B2.out (R := w.heap.size + 1) (by omega) (.int .i64 X) (.int .i64 Y))
      clear hr b2
      go_wp2_with fail
      refine bodyPost_ret (v := .agg #[.int .i64 X, .int .i64 Y]) (by simp [results, Tryd.results46, go_sem, r0, r1]) rfl ?_
      exact ⟨by rw [HF.out.2], BB.out⟩
    · have g3 : ¬ (N : Int) < n1 := by omega
      clear hc
      go_wp2_with fail
      refine (more_calls N _ (by omega)).mono ?_
      rintro e w2 ⟨rfl, b2⟩
      rw [HF.out.1]
      have hr := (b2.block _ (Array.getElem?_eq_some_iff.1 R1.out).1).trans R1.out
      have B2 := hid (B1.out.trans (b2.mono B1.out.size))
      obtain ⟨⟨p0, q0⟩, ⟨u1, v1⟩, r0, r1⟩ := two_e hr (.int .i64 X) (.int .i64 Y)
      have BB := hid (below_two B2.out (R := w.heap.size + 1) (by omega) (.int .i64 X) (.int .i64 Y))
      clear hr b2
      go_wp2_with fail
      refine bodyPost_ret (v := .agg #[.int .i64 X, .int .i64 Y]) (by simp [results, Tryd.results46, go_sem, r0, r1]) rfl ?_
      exact ⟨by rw [HF.out.2], BB.out⟩
end
end Go.Proofs.YtiheagkgpbkkfaaDoor

/-
  The reference's rows of points in memory: word, are.
-/
namespace Go.Proofs.YtiheagkgpbkkfaaDoor
open Go.RowKit
open Sc
set_option linter.unusedVariables false
section
variable {w : World} {v : Value} {cl : Int → Int} {ps : List Int} {ns : List Nat} {sure : Nat}
set_option maxRecDepth 100000 in
set_option maxHeartbeats 3200000 in
theorem word_calls (h : Lm w v cl ps ns sure) :
    Calls Tryd.prog 31 #[v] w fun e w' => e = .returned (av (word cl ps)) ∧ Below w.heap.size w w' := by
  obtain ⟨a1, n1, c1, a2, n2, c2, a3, n3, c3, rfl, h1, h2, h3⟩ := h.ex
  have hl2 := h2.len
  rw [List.length_map] at hl2
  have hlen := h.len
  have hspl : sp cl ps ≤ ps.length := tw_le _ _
  have bx : Below w.heap.size w (w.alloc (.cells #[.slice a1 n1 c1, .slice a2 n2 c2, .slice a3 n3 c3, .int .i64 (sure : Int)] 61)) := (Below.refl w.heap.size w).alloc (Nat.le_refl _) _
  have hs : (w.alloc (.cells #[.slice a1 n1 c1, .slice a2 n2 c2, .slice a3 n3 c3, .int .i64 (sure : Int)] 61)).heap.size = w.heap.size + 1 := by simp
  have bz := (Below.refl (w.alloc (.cells #[.slice a1 n1 c1, .slice a2 n2 c2, .slice a3 n3 c3, .int .i64 (sure : Int)] 61)).heap.size (w.alloc (.cells #[.slice a1 n1 c1, .slice a2 n2 c2, .slice a3 n3 c3, .int .i64 (sure : Int)] 61))).alloc (Nat.le_refl _) (.cells #[.int .i64 0, .int .i64 0] 64)
  have B0 := hid (bx.trans (bz.mono bx.size))
  have K0 := hid ((show B4 (w.alloc (.cells #[.slice a1 n1 c1, .slice a2 n2 c2, .slice a3 n3 c3, .int .i64 (sure : Int)] 61)) w.heap.size (.slice a1 n1 c1) (.slice a2 n2 c2) (.slice a3 n3 c3) (.int .i64 (sure : Int)) from heap_alloc_new w _).below bz)
  have H0 := hid (h.below B0.out)
  have I0 := hid (h2.below B0.out)
  have hr := heap_alloc_new (w.alloc (.cells #[.slice a1 n1 c1, .slice a2 n2 c2, .slice a3 n3 c3, .int .i64 (sure : Int)] 61)) (.cells #[.int .i64 0, .int .i64 0] 64)
  rw [hs] at hr
  have HR := hid hr
  obtain ⟨N, hN⟩ : ∃ N, sp cl ps = N := ⟨_, rfl⟩
  obtain ⟨T, hT⟩ : ∃ T, T = tw (isN cl) (ps.drop N) := ⟨_, rfl⟩
  have HT := hid (tw_at (q := isN cl) hT)
  have hTle : T ≤ ps.length - N := by
    have h4 : tw (isN cl) (ps.drop N) ≤ (ps.drop N).length := tw_le _ _
    rw [List.length_drop] at h4
    omega
  have HB := hid (show word cl ps = more (N + T) by unfold word; rw [hN, ← hT])
  rw [hN] at hspl
  have HN := hid hN
  clear h h1 h2 h3 hN hT hr hs bx bz
  have d0 := K0.out.c0
  have d1 := K0.out.c1
  have d2 := K0.out.c2
  have d3 := K0.out.c3
  go_enter Tryd.func31, Tryd.ntmps31
  go_wp2_with fail
  refine (spaces_calls H0.out 0 (by omega)).mono ?_
  rintro e w1 ⟨rfl, b1⟩
  rw [List.drop_zero, HN.out]
  have K1 := hid (K0.out.below b1)
  have I1 := hid (I0.out.below b1)
  have B1 := hid (B0.out.trans (b1.mono B0.out.size))
  have R1 := hid ((b1.block _ (Array.getElem?_eq_some_iff.1 HR.out).1).trans HR.out)
  clear b1 d0 d1 d2 d3 K0 HR H0 HN I0
  go_wp2_with fail
  go_loopg [3] T (fun r nv wr => ∃ (k J : Nat), r = T - k ∧ nv = .int .i64 (J : Int) ∧ k ≤ T ∧ Hid (J = N + k) ∧ wr = w1)
  case atStart => exact ⟨0, N, rfl, rfl, by omega, hid rfl, rfl⟩
  case round =>
    obtain ⟨k, J, rfl, rfl, hk, HJ, rfl⟩ := hrel
    have j1 : J ≤ N + k := by rw [HJ.out]; omega
    have j2 : N + k ≤ J := by rw [HJ.out]; omega
    have j0 : (0 : Int) ≤ J := by omega
    have e2 : IntKind.i64.wrap ((J : Int) + 1) = ((J + 1 : Nat) : Int) := by rw [i64_in (by omega) (by omega)]; omega
    have d1 := K1.out.c1
    by_cases hlt : k < T
    · obtain ⟨hb, hq⟩ := HT.out.1 k hlt
      obtain ⟨b, off, rfl, hbl, hc⟩ := I1.out.at' (by omega)
      have p0 := hc (N + k) (by omega)
      rw [it_map cl ps hb] at p0
      rw [← HJ.out] at p0 hq
      unfold isN at hq
      obtain ⟨y, hy⟩ : ∃ y, cl (Pr.it ps J) = y := ⟨_, rfl⟩
      rw [hy] at p0 hq
      simp only [bne, Bool.and_eq_true, Bool.not_eq_true'] at hq
      obtain ⟨t3, t4⟩ := hq
      have m3 : (y != 3) = true := by simp only [bne, t3, Bool.not_false]
      have m4 : (y != 4) = true := by simp only [bne, t4, Bool.not_false]
      clear t3 t4
      have k1 : (J : Int) < n2 := by omega
      clear hc hy
      go_wp2_with fail
      go_roundg (T - (k + 1))
      case measure => omega
      case rel => exact ⟨k + 1, J + 1, rfl, rfl, by omega, hid (by rw [HJ.out]; omega), rfl⟩
    · obtain rfl : k = T := by omega
      obtain ⟨X, hX⟩ : ∃ X : Int, X = (J : Int) := ⟨_, rfl⟩
      obtain ⟨Y, hY⟩ : ∃ Y : Int, Y = ((J + 1 : Nat) : Int) := ⟨_, rfl⟩
      have HF := hid (show av (more J) = .agg #[.int .i64 X, .int .i64 Y] ∧ av (word cl ps) = .agg #[.int .i64 X, .int .i64 Y] by rw [HB.out, ← HJ.out, hX, hY]; exact ⟨rfl, rfl⟩)
      have hJm : J ≤ 1000000 := by omega
      clear hX hY HB
      by_cases hb : N + k < ps.length
      · have hq := HT.out.2 hb
        obtain ⟨b, off, rfl, hbl, hc⟩ := I1.out.at' (by omega)
        have p0 := hc (N + k) (by omega)
        rw [it_map cl ps hb] at p0
        rw [← HJ.out] at p0 hq
        unfold isN at hq
        obtain ⟨y, hy⟩ : ∃ y, cl (Pr.it ps J) = y := ⟨_, rfl⟩
        rw [hy] at p0 hq
        have k1 : (J : Int) < n2 := by omega
        clear hc hy
        cases t3 : (y == 3) with
        | true =>
          have m3 : y = 3 := by simpa using t3
          subst m3
          clear hq t3
          go_wp2_with fail
          refine (more_calls J _ hJm).mono ?_
          rintro e w2 ⟨rfl, b2⟩
          rw [HF.out.1]
          have hr := (b2.block _ (Array.getElem?_eq_some_iff.1 R1.out).1).trans R1.out
          have B2 := hid (B1.out.trans (b2.mono B1.out.size))
          obtain ⟨⟨p0, q0⟩, ⟨u1, v1⟩, r0, r1⟩ := two_e hr (.int .i64 X) (.int .i64 Y)
          have BB := hid (below_two B2.out (R := w.heap.size + 1) (by omega) (.int .i64 X) (.int .i64 Y))
          clear hr b2
          go_wp2_with fail
          refine bodyPost_ret (v := .agg #[.int .i64 X, .int .i64 Y]) (by simp [results, Tryd.results31, go_sem, r0, r1]) rfl ?_
          exact ⟨by rw [HF.out.2], BB.out⟩
        | false =>
          have t4 : (y == 4) = true := by
            simp only [bne, t3, Bool.not_false, Bool.true_and, Bool.not_eq_false'] at hq
            exact hq
          have m4 : y = 4 := by simpa using t4
          subst m4
          clear hq t3 t4
          go_wp2_with fail
          refine (more_calls J _ hJm).mono ?_
          rintro e w2 ⟨rfl, b2⟩
          rw [HF.out.1]
          have hr := (b2.block _ (Array.getElem?_eq_some_iff.1 R1.out).1).trans R1.out
          have B2 := hid (B1.out.trans (b2.mono B1.out.size))
          obtain ⟨⟨p0, q0⟩, ⟨u1, v1⟩, r0, r1⟩ := two_e hr (.int .i64 X) (.int .i64 Y)
          have BB := hid (below_two B2.out (R := w.heap.size + 1) (by omega) (.int .i64 X) (.int .i64 Y))
          clear hr b2
          go_wp2_with fail
          refine bodyPost_ret (v := .agg #[.int .i64 X, .int .i64 Y]) (by simp [results, Tryd.results31, go_sem, r0, r1]) rfl ?_
          exact ⟨by rw [HF.out.2], BB.out⟩
      · have k1 : ¬ (J : Int) < n2 := by omega
        go_wp2_with fail
        refine (more_calls J _ hJm).mono ?_
        rintro e w2 ⟨rfl, b2⟩
        rw [HF.out.1]
        have hr := (b2.block _ (Array.getElem?_eq_some_iff.1 R1.out).1).trans R1.out
        have B2 := hid (B1.out.trans (b2.mono B1.out.size))
        obtain ⟨⟨p0, q0⟩, ⟨u1, v1⟩, r0, r1⟩ := two_e hr (.int .i64 X) (.int .i64 Y)
        have BB := hid (below_two B2.out (R := w.heap.size + 1) (by omega) (.int .i64 X) (.int .i64 Y))
        clear hr b2
        go_wp2_with fail
        refine bodyPost_ret (v := .agg #[.int .i64 X, .int .i64 Y]) (by simp [results, Tryd.results31, go_sem, r0, r1]) rfl ?_
        exact ⟨by rw [HF.out.2], BB.out⟩
end
end Go.Proofs.YtiheagkgpbkkfaaDoor

/-
  The reference's rows of points in memory: are.
-/
namespace Go.Proofs.YtiheagkgpbkkfaaDoor
open Go.RowKit
open Sc
set_option linter.unusedVariables false
section
variable {w : World} {v : Value} {cl : Int → Int} {ps : List Int} {ns : List Nat} {sure : Nat}
/-- Is a point this letter, or, if wide, the capital one? -/
def mt (wide : Bool) (p x : Int) : Prop := p = x ∨ (wide = true ∧ 97 ≤ x ∧ p = x - 32)
/-- Do the first points tell these letters? -/
def Tells (wide : Bool) (ps : List Int) (m : Nat) (f : Nat → Int) : Prop := ∀ j, j < m → j < ps.length ∧ mt wide (Pr.it ps j) (f j)
def AreOut (wide : Bool) (ps : List Int) (m : Nat) (f : Nat → Int) (e : Ending) : Prop := ∃ t, e = .returned (.bool t) ∧ (t = true ↔ Tells wide ps m f)
set_option maxRecDepth 100000 in
set_option maxHeartbeats 3200000 in
theorem are_calls (h : Lm w v cl ps ns sure) {s : ByteArray} {m : Nat} {f : Nat → Int} (hS : St s m f) (hm : m ≤ 10) (wide : Bool) :
    Calls Tryd.prog 48 #[v, .int .i64 0, .string s, .bool wide] w fun e w' => AreOut wide ps m f e ∧ Below w.heap.size w w' := by
  obtain ⟨a1, n1, c1, a2, n2, c2, a3, n3, c3, rfl, h1, h2, h3⟩ := h.ex
  have hl1 := h1.len
  have hlen := h.len
  obtain ⟨hsz, hget, hz⟩ := hS
  have H1 := hid h1
  have B0 := hid ((Below.refl w.heap.size w).alloc (Nat.le_refl _) (.cells #[.slice a1 n1 c1, .slice a2 n2 c2, .slice a3 n3 c3, .int .i64 (sure : Int)] 61))
  have K0 := hid (show B4 (w.alloc (.cells #[.slice a1 n1 c1, .slice a2 n2 c2, .slice a3 n3 c3, .int .i64 (sure : Int)] 61)) w.heap.size (.slice a1 n1 c1) (.slice a2 n2 c2) (.slice a3 n3 c3) (.int .i64 (sure : Int)) from heap_alloc_new w _)
  clear h h1 h2 h3
  go_enter Tryd.func48, Tryd.ntmps48
  go_wp2_with fail
  obtain ⟨K, hK⟩ : ∃ K, w.heap.size = K := ⟨_, rfl⟩
  obtain ⟨W, hW⟩ : ∃ W, w.alloc (.cells #[.slice a1 n1 c1, .slice a2 n2 c2, .slice a3 n3 c3, .int .i64 (sure : Int)] 61) = W := ⟨_, rfl⟩
  have H3 := hid (H1.out.below (by rw [← hW]; exact (Below.refl w.heap.size w).alloc (Nat.le_refl _) _) : Ir W a1 n1 c1 ps)
  rw [hW, hK] at K0
  rw [hW] at B0
  rw [hW, hK]
  clear hW hK H1
  go_loopg [9] m (fun r kv wr => ∃ k : Nat, r = m - k ∧ kv = .int .i64 (k : Int) ∧ k ≤ m ∧ Hid (Tells wide ps k f) ∧ wr = W)
  case atStart => exact ⟨0, rfl, rfl, by omega, hid (fun j hj => by omega), rfl⟩
  case round =>
    obtain ⟨k, rfl, rfl, hk, HT, rfl⟩ := hrel
    have k0 : (0 : Int) ≤ k := by omega
    have e1 : IntKind.i64.wrap (k : Int) = k := i64_in (by omega) (by omega)
    have e2 : IntKind.i64.wrap ((k : Int) + 1) = k + 1 := i64_in (by omega) (by omega)
    have d0 := K0.out.c0
    by_cases hlt : k < m
    · have k1 : (k : Int) < s.size := by omega
      have hzk := hz k
      have e3 : IntKind.i64.wrap (f k) = f k := i64_in (by omega) (by omega)
      have e4 : IntKind.i64.wrap (f k - 32) = f k - 32 := i64_in (by omega) (by omega)
      by_cases hin : k < ps.length
      · obtain ⟨b, off, rfl, hbl, hc⟩ := H3.out.at' (by omega)
        have p0 := hc k (by omega)
        have HN := hid (show mt wide (Pr.it ps k) (f k) → Tells wide ps (k + 1) f from fun hmk j hj => by
          rcases Nat.lt_succ_iff_lt_or_eq.1 hj with h | rfl
          · exact HT.out j h
          · exact ⟨hin, hmk⟩)
        have HX := hid (show ¬ mt wide (Pr.it ps k) (f k) → ¬ Tells wide ps m f from fun hmk ht => hmk (ht k hlt).2)
        obtain ⟨y, hy⟩ : ∃ y, Pr.it ps k = y := ⟨_, rfl⟩
        rw [hy] at p0 HN HX
        have k2 : ¬ (n1 : Int) ≤ k := by omega
        have k3 : (k : Int) < n1 := by omega
        clear hc hy
        by_cases hyx : y = f k
        · have t0 : (y == f k) = true := by simpa using hyx
          have HT2 := hid (HN.out (.inl hyx))
          subst hyx
          clear HN HX t0
          go_wp2_with fail
          go_roundg (m - (k + 1))
          case measure => omega
          case rel => exact ⟨k + 1, rfl, by go_num, by omega, HT2, rfl⟩
        · have t0 : (y == f k) = false := by simpa using hyx
          cases wide with
          | false =>
            have HF := hid (HX.out (fun e => e.elim hyx (fun e => by cases e.1)))
            clear HN HX
            go_wp2_with fail
            go_ret
            exact ⟨⟨_, rfl, ⟨fun e => (by cases e), fun e => absurd e HF.out⟩⟩, B0.out⟩
          | true =>
            by_cases h97 : 97 ≤ f k
            · by_cases h32 : y = f k - 32
              · have t1 : (y == f k - 32) = true := by simpa using h32
                have HT2 := hid (HN.out (.inr ⟨rfl, h97, h32⟩))
                clear HN HX
                go_wp2_with fail
                go_roundg (m - (k + 1))
                case measure => omega
                case rel => exact ⟨k + 1, rfl, by go_num, by omega, HT2, rfl⟩
              · have t1 : (y == f k - 32) = false := by simpa using h32
                have HF := hid (HX.out (fun e => e.elim hyx (fun e => h32 e.2.2)))
                clear HN HX
                go_wp2_with fail
                go_ret
                exact ⟨⟨_, rfl, ⟨fun e => (by cases e), fun e => absurd e HF.out⟩⟩, B0.out⟩
            · have HF := hid (HX.out (fun e => e.elim hyx (fun e => h97 e.2.1)))
              clear HN HX
              go_wp2_with fail
              go_ret
              exact ⟨⟨_, rfl, ⟨fun e => (by cases e), fun e => absurd e HF.out⟩⟩, B0.out⟩
      · have k2 : (n1 : Int) ≤ k := by omega
        have HF := hid (show ¬ Tells wide ps m f from fun e => hin (e k hlt).1)
        go_wp2_with fail
        go_ret
        exact ⟨⟨_, rfl, ⟨fun e => (by cases e), fun e => absurd e HF.out⟩⟩, B0.out⟩
    · obtain rfl : k = m := by omega
      have k1 : ¬ (k : Int) < s.size := by omega
      go_wp2_with fail
      go_ret
      exact ⟨⟨_, rfl, ⟨fun _ => HT.out, fun _ => rfl⟩⟩, B0.out⟩
end
end Go.Proofs.YtiheagkgpbkkfaaDoor

/-
  The reference's rows of points in memory: ending.
-/
namespace Go.Proofs.YtiheagkgpbkkfaaDoor
open Go.RowKit
open Sc
set_option linter.unusedVariables false
theorem st_lit (s : ByteArray) (l : List Int) (h : s.data.toList.map (fun b => (b.toNat : Int)) = l) (hb : ∀ x ∈ l, 0 ≤ x ∧ x ≤ 255) : St s l.length (fun i => l.getD i 0) := by
  have hl : s.size = l.length := by rw [← h]; simp
  refine ⟨hl, fun i hi => ?_, fun i => ?_⟩
  · have hi' : i < l.length := by omega
    rw [List.getD_eq_getElem?_getD, List.getElem?_eq_getElem hi']
    subst h
    simp
    rfl
  · by_cases hi : i < l.length
    · rw [List.getD_eq_getElem?_getD, List.getElem?_eq_getElem hi]
      exact hb _ (List.getElem_mem hi)
    · rw [List.getD_eq_getElem?_getD, List.getElem?_eq_none (by omega)]
      exact ⟨by decide, by decide⟩
def endS : Nat → ByteArray
  | 0 => ⟨#[39, 115]⟩
  | 1 => ⟨#[39, 116]⟩
  | 2 => ⟨#[39, 109]⟩
  | 3 => ⟨#[39, 100]⟩
  | 4 => ⟨#[39, 114, 101]⟩
  | 5 => ⟨#[39, 118, 101]⟩
  | _ => ⟨#[39, 108, 108]⟩
def endL : Nat → List Int
  | 0 => [39, 115]
  | 1 => [39, 116]
  | 2 => [39, 109]
  | 3 => [39, 100]
  | 4 => [39, 114, 101]
  | 5 => [39, 118, 101]
  | _ => [39, 108, 108]
theorem end_st (j : Nat) : St (endS j) (endL j).length (fun i => (endL j).getD i 0) := by
  refine st_lit _ _ ?_ ?_
  · match j with
    | 0 => rfl
    | 1 => rfl
    | 2 => rfl
    | 3 => rfl
    | 4 => rfl
    | 5 => rfl
    | n + 6 => rfl
  · match j with
    | 0 => decide
    | 1 => decide
    | 2 => decide
    | 3 => decide
    | 4 => decide
    | 5 => decide
    | n + 6 => exact (show ∀ x ∈ ([39, 108, 108] : List Int), 0 ≤ x ∧ x ≤ 255 by decide)
theorem end_len (j : Nat) : (endL j).length ≤ 3 := by
  match j with
  | 0 => exact (by decide)
  | 1 => exact (by decide)
  | 2 => exact (by decide)
  | 3 => exact (by decide)
  | 4 => exact (by decide)
  | 5 => exact (by decide)
  | n + 6 => exact (show ([39, 108, 108] : List Int).length ≤ 3 by decide)
theorem mt_39 {w : Bool} {p : Int} : mt w p 39 ↔ p = 39 := ⟨fun h => h.elim id (fun e => by omega), .inl⟩
theorem mt_eqw {w : Bool} {p x : Int} (hx : 97 ≤ x) : mt w p x ↔ eqw w p x = true := by
  unfold mt eqw
  simp only [Bool.or_eq_true, Bool.and_eq_true, beq_iff_eq]
  constructor
  · rintro (h | ⟨h1, _, h2⟩)
    · exact .inl h
    · exact .inr ⟨h1, h2⟩
  · rintro (h | ⟨h1, h2⟩)
    · exact .inl h
    · exact .inr ⟨h1, hx, h2⟩
abbrev TE (w : Bool) (ps : List Int) (l : List Int) : Prop := Tells w ps l.length (fun i => l.getD i 0)
theorem te_two {w : Bool} {ps : List Int} {x : Int} (hx : 97 ≤ x) : TE w ps [39, x] ↔ ∃ b r, ps = 39 :: b :: r ∧ eqw w b x = true := by
  constructor
  · intro h
    have h0 := h 0 (by simp)
    have h1 := h 1 (by simp)
    match ps, h0, h1 with
    | a :: b :: r, h0, h1 =>
      obtain rfl : a = 39 := mt_39.1 (by simpa [Pr.it] using h0.2)
      exact ⟨b, r, rfl, (mt_eqw hx).1 (by simpa [Pr.it] using h1.2)⟩
    | [a], _, h1 => simp at h1
    | [], h0, _ => simp at h0
  · rintro ⟨b, r, rfl, h⟩ j hj
    match j, hj with
    | 0, _ => exact ⟨by simp, mt_39.2 rfl⟩
    | 1, _ => exact ⟨by simp, (mt_eqw hx).2 h⟩
    | j + 2, hj => exact absurd (show j + 2 < 2 from hj) (by omega)
theorem te_three {w : Bool} {ps : List Int} {x y : Int} (hx : 97 ≤ x) (hy : 97 ≤ y) : TE w ps [39, x, y] ↔ ∃ b c r, ps = 39 :: b :: c :: r ∧ eqw w b x = true ∧ eqw w c y = true := by
  constructor
  · intro h
    have h0 := h 0 (by simp)
    have h1 := h 1 (by simp)
    have h2 := h 2 (by simp)
    match ps, h0, h1, h2 with
    | a :: b :: c :: r, h0, h1, h2 =>
      obtain rfl : a = 39 := mt_39.1 (by simpa [Pr.it] using h0.2)
      exact ⟨b, c, r, rfl, (mt_eqw hx).1 (by simpa [Pr.it] using h1.2), (mt_eqw hy).1 (by simpa [Pr.it] using h2.2)⟩
    | [a, b], _, _, h2 => simp at h2
    | [a], _, h1, _ => simp at h1
    | [], h0, _, _ => simp at h0
  · rintro ⟨b, c, r, rfl, h, h'⟩ j hj
    match j, hj with
    | 0, _ => exact ⟨by simp, mt_39.2 rfl⟩
    | 1, _ => exact ⟨by simp, (mt_eqw hx).2 h⟩
    | 2, _ => exact ⟨by simp, (mt_eqw hy).2 h'⟩
    | j + 3, hj => exact absurd (show j + 3 < 3 from hj) (by omega)
/-- The first ending that the points tell is the ending. -/
theorem ending_first {w : Bool} {ps : List Int} {j : Nat} (hj : j < 7) (h : TE w ps (endL j)) (hno : ∀ i, i < j → ¬ TE w ps (endL i)) : ending w ps = (endL j).length := by
  have smtd : ∀ {b : Int} {r : List Int}, (eqw w b 115 || eqw w b 116 || eqw w b 109 || eqw w b 100) = true → ending w (39 :: b :: r) = 2 := fun hs => by simp [ending, hs]
  by_cases h4 : j < 4
  · obtain ⟨x, hl, hx, hxx⟩ : ∃ x, endL j = [39, x] ∧ 97 ≤ x ∧ (x = 115 ∨ x = 116 ∨ x = 109 ∨ x = 100) := by
      match j, h4 with
      | 0, _ => exact ⟨115, rfl, by decide, by decide⟩
      | 1, _ => exact ⟨116, rfl, by decide, by decide⟩
      | 2, _ => exact ⟨109, rfl, by decide, by decide⟩
      | 3, _ => exact ⟨100, rfl, by decide, by decide⟩
    rw [hl] at h ⊢
    obtain ⟨b, r, rfl, hb⟩ := (te_two hx).1 h
    refine smtd ?_
    rcases hxx with rfl | rfl | rfl | rfl <;> simp [hb]
  · obtain ⟨x, y, hl, hx, hy, hxx⟩ : ∃ x y, endL j = [39, x, y] ∧ 97 ≤ x ∧ 97 ≤ y ∧ ((x = 114 ∧ y = 101) ∨ (x = 118 ∧ y = 101) ∨ (x = 108 ∧ y = 108)) := by
      match j, hj, h4 with
      | 4, _, _ => exact ⟨114, 101, rfl, by decide, by decide, by decide⟩
      | 5, _, _ => exact ⟨118, 101, rfl, by decide, by decide, by decide⟩
      | 6, _, _ => exact ⟨108, 108, rfl, by decide, by decide, by decide⟩
      | n + 7, hj, _ => omega
      | 0, _, h4 => omega
      | 1, _, h4 => omega
      | 2, _, h4 => omega
      | 3, _, h4 => omega
    rw [hl] at h ⊢
    obtain ⟨b, c, r, rfl, hb, hc⟩ := (te_three hx hy).1 h
    have no : ∀ i z, i < 4 → endL i = [39, z] → 97 ≤ z → eqw w b z = false := fun i z hi he hz => by
      cases hq : eqw w b z with
      | false => rfl
      | true => exact absurd (by rw [he]; exact (te_two hz).2 ⟨b, c :: r, rfl, hq⟩) (hno i (by omega))
    have n0 := no 0 115 (by omega) rfl (by decide)
    have n1 := no 1 116 (by omega) rfl (by decide)
    have n2 := no 2 109 (by omega) rfl (by decide)
    have n3 := no 3 100 (by omega) rfl (by decide)
    rcases hxx with ⟨rfl, rfl⟩ | ⟨rfl, rfl⟩ | ⟨rfl, rfl⟩ <;> simp [ending, n0, n1, n2, n3, hb, hc]
theorem ending_none {w : Bool} {ps : List Int} (hno : ∀ i, i < 7 → ¬ TE w ps (endL i)) : ending w ps = 0 := by
  match ps with
  | [] => rfl
  | [a] => rfl
  | a :: b :: r =>
    by_cases ha : a = 39
    · subst ha
      have no : ∀ i z, i < 4 → endL i = [39, z] → 97 ≤ z → eqw w b z = false := fun i z hi he hz => by
        cases hq : eqw w b z with
        | false => rfl
        | true => exact absurd (by rw [he]; exact (te_two hz).2 ⟨b, r, rfl, hq⟩) (hno i (by omega))
      have n0 := no 0 115 (by omega) rfl (by decide)
      have n1 := no 1 116 (by omega) rfl (by decide)
      have n2 := no 2 109 (by omega) rfl (by decide)
      have n3 := no 3 100 (by omega) rfl (by decide)
      cases r with
      | nil => simp [ending, n0, n1, n2, n3]
      | cons c r =>
        have no3 : ∀ i x y, i < 7 → endL i = [39, x, y] → 97 ≤ x → 97 ≤ y → (eqw w b x && eqw w c y) = false := fun i x y hi he hx hy => by
          cases hq : (eqw w b x && eqw w c y) with
          | false => rfl
          | true =>
            rw [Bool.and_eq_true] at hq
            exact absurd (by rw [he]; exact (te_three hx hy).2 ⟨b, c, r, rfl, hq.1, hq.2⟩) (hno i hi)
        have m4 := no3 4 114 101 (by omega) rfl (by decide) (by decide)
        have m5 := no3 5 118 101 (by omega) rfl (by decide) (by decide)
        have m6 := no3 6 108 108 (by omega) rfl (by decide) (by decide)
        simp only [ending, if_true, n0, n1, n2, n3, Bool.or_false, Bool.false_eq_true, if_false, m4, m5, m6]
    · simp [ending, ha]
section
variable {w : World} {v : Value} {cl : Int → Int} {ps : List Int} {ns : List Nat} {sure : Nat}
def endCells : Array Value := #[.string ⟨#[39, 115]⟩, .string ⟨#[39, 116]⟩, .string ⟨#[39, 109]⟩, .string ⟨#[39, 100]⟩, .string ⟨#[39, 114, 101]⟩, .string ⟨#[39, 118, 101]⟩, .string ⟨#[39, 108, 108]⟩]
theorem end_cell {w : World} {B : Nat} {t : TypeId} (h : w.heap[B]? = some (.cells endCells t (0, 0))) {j : Nat} (hj : j < 7) : w.cell? ⟨B, j, none⟩ = some (.string (endS j)) := by
  simp only [World.cell?, h]
  match j, hj with
  | 0, _ => rfl
  | 1, _ => rfl
  | 2, _ => rfl
  | 3, _ => rfl
  | 4, _ => rfl
  | 5, _ => rfl
  | 6, _ => rfl
  | n + 7, hj => omega
set_option maxRecDepth 100000 in
set_option maxHeartbeats 6400000 in
theorem ending_calls (h : Lm w v cl ps ns sure) (wide : Bool) :
    Calls Tryd.prog 44 #[v, .bool wide] w fun e w' => e = .returned (.int .i64 (ending wide ps : Nat)) ∧ Below w.heap.size w w' := by
  obtain ⟨a1, n1, c1, a2, n2, c2, a3, n3, c3, rfl, h1, h2, h3⟩ := h.ex
  have bx : Below w.heap.size w (w.alloc (.cells #[.slice a1 n1 c1, .slice a2 n2 c2, .slice a3 n3 c3, .int .i64 (sure : Int)] 61)) := (Below.refl w.heap.size w).alloc (Nat.le_refl _) _
  have hs : (w.alloc (.cells #[.slice a1 n1 c1, .slice a2 n2 c2, .slice a3 n3 c3, .int .i64 (sure : Int)] 61)).heap.size = w.heap.size + 1 := by simp
  have bz := (Below.refl (w.alloc (.cells #[.slice a1 n1 c1, .slice a2 n2 c2, .slice a3 n3 c3, .int .i64 (sure : Int)] 61)).heap.size (w.alloc (.cells #[.slice a1 n1 c1, .slice a2 n2 c2, .slice a3 n3 c3, .int .i64 (sure : Int)] 61))).alloc (Nat.le_refl _) (.cells endCells 9)
  have B0 := hid (bx.trans (bz.mono bx.size))
  have K0 := hid ((show B4 (w.alloc (.cells #[.slice a1 n1 c1, .slice a2 n2 c2, .slice a3 n3 c3, .int .i64 (sure : Int)] 61)) w.heap.size (.slice a1 n1 c1) (.slice a2 n2 c2) (.slice a3 n3 c3) (.int .i64 (sure : Int)) from heap_alloc_new w _).below bz)
  have H0 := hid (h.below B0.out)
  have hr := heap_alloc_new (w.alloc (.cells #[.slice a1 n1 c1, .slice a2 n2 c2, .slice a3 n3 c3, .int .i64 (sure : Int)] 61)) (.cells endCells 9)
  rw [hs] at hr
  have R0 := hid hr
  clear h h1 h2 h3 hr hs bx bz
  go_enter Tryd.func44, Tryd.ntmps44
  go_wp2_with fail
  obtain ⟨W2, hW2⟩ : ∃ W, (w.alloc (.cells #[.slice a1 n1 c1, .slice a2 n2 c2, .slice a3 n3 c3, .int .i64 (sure : Int)] 61)).alloc (.cells endCells 9) = W := ⟨_, rfl⟩
  rw [hW2] at K0 H0 R0 B0
  have hW3 : (w.alloc (.cells #[.slice a1 n1 c1, .slice a2 n2 c2, .slice a3 n3 c3, .int .i64 (sure : Int)] 61)).alloc (.cells #[.string ⟨#[39, 115]⟩, .string ⟨#[39, 116]⟩, .string ⟨#[39, 109]⟩, .string ⟨#[39, 100]⟩, .string ⟨#[39, 114, 101]⟩, .string ⟨#[39, 118, 101]⟩, .string ⟨#[39, 108, 108]⟩] 9) = W2 := hW2
  rw [hW3]
  clear hW2 hW3
  go_loopg [10] 7 (fun r kv wr => ∃ j : Nat, r = 7 - j ∧ kv = .int .i64 (j : Int) ∧ j ≤ 7 ∧ Hid (∀ i, i < j → ¬ TE wide ps (endL i)) ∧ Hid (Lm wr (.agg #[.slice a1 n1 c1, .slice a2 n2 c2, .slice a3 n3 c3, .int .i64 (sure : Int)]) cl ps ns sure) ∧ Hid (B4 wr w.heap.size (.slice a1 n1 c1) (.slice a2 n2 c2) (.slice a3 n3 c3) (.int .i64 (sure : Int))) ∧ Hid (wr.heap[w.heap.size + 1]? = some (.cells endCells 9 (0, 0))) ∧ Hid (Below w.heap.size w wr))
  case atStart => exact ⟨0, rfl, rfl, by omega, hid (fun i hi => by omega), H0, K0, R0, B0⟩
  case round =>
    obtain ⟨j, rfl, rfl, hj, HT, HH, HK, HR, HB⟩ := hrel
    by_cases hlt : j < 7
    · have k1 : (j : Int) < 7 := by omega
      have k0 : (0 : Int) ≤ j := by omega
      have e2 : IntKind.i64.wrap ((j : Int) + 1) = j + 1 := i64_in (by omega) (by omega)
      have d0 := HK.out.c0
      have d1 := HK.out.c1
      have d2 := HK.out.c2
      have d3 := HK.out.c3
      have p0 := end_cell HR.out hlt
      have HSt := hid (end_st j)
      have hln := end_len j
      obtain ⟨S, hS⟩ : ∃ S, endS j = S := ⟨_, rfl⟩
      rw [hS] at p0 HSt
      have HSS := hid hS
      have HD := hid (show ∀ w' : World, Below wr.heap.size wr w' → w'.cell? ⟨w.heap.size, 0, none⟩ = some (.slice a1 n1 c1) ∧ w'.cell? ⟨w.heap.size, 1, none⟩ = some (.slice a2 n2 c2) ∧ w'.cell? ⟨w.heap.size, 2, none⟩ = some (.slice a3 n3 c3) ∧ w'.cell? ⟨w.heap.size, 3, none⟩ = some (.int .i64 (sure : Int)) ∧ w'.cell? ⟨w.heap.size + 1, j, none⟩ = some (.string S) from fun w' b => ⟨(HK.out.below b).c0, (HK.out.below b).c1, (HK.out.below b).c2, (HK.out.below b).c3, by rw [← HSS.out]; exact end_cell ((b.block _ (Array.getElem?_eq_some_iff.1 HR.out).1).trans HR.out) hlt⟩)
      clear hS
      go_wp2_with fail
      go_region_held3 (fun w' => w'.cell? ⟨w.heap.size, 0, none⟩ = some (.slice a1 n1 c1) ∧ w'.cell? ⟨w.heap.size, 1, none⟩ = some (.slice a2 n2 c2) ∧ w'.cell? ⟨w.heap.size, 2, none⟩ = some (.slice a3 n3 c3) ∧ w'.cell? ⟨w.heap.size, 3, none⟩ = some (.int .i64 (sure : Int)) ∧ w'.cell? ⟨w.heap.size + 1, j, none⟩ = some (.string S)) (first | with_reducible exact ⟨d0, d1, d2, d3, p0⟩ | with_reducible exact N2.out | go_keep) (first | (go_at_call 48; refine (are_calls (w := wr.drew) (HH.out.below (Below.refl _ _).drew) HSt.out (by omega) wide).mono ?_; rintro e w2 ⟨⟨t, rfl, ht⟩, b2⟩; have HA := hid ht; have B2 := hid (show Below wr.heap.size wr w2 from (Below.refl _ wr).drew.trans b2); have N2 := hid (HD.out w2 B2.out); clear ht b2) | (go_at_call 48; refine (are_calls (w := wr) HH.out HSt.out (by omega) wide).mono ?_; rintro e w2 ⟨⟨t, rfl, ht⟩, b2⟩; have HA := hid ht; have B2 := hid (show Below wr.heap.size wr w2 from b2); have N2 := hid (HD.out w2 B2.out); clear ht b2))
      have H2 := hid (HH.out.below B2.out)
      have K2 := hid (HK.out.below B2.out)
      have R2 := hid ((B2.out.block _ (Array.getElem?_eq_some_iff.1 HR.out).1).trans HR.out)
      have BB := hid (HB.out.trans (B2.out.mono HB.out.size))
      clear d0 d1 d2 d3 p0 HH HK HR HB HD B2
      cases t with
      | false =>
        have HT2 := hid (show ∀ i, i < j + 1 → ¬ TE wide ps (endL i) from fun i hi => by
          rcases Nat.lt_succ_iff_lt_or_eq.1 hi with h | rfl
          · exact HT.out i h
          · exact fun e => absurd (HA.out.2 e) (by decide))
        clear HT HA N2
        go_wp2_with fail
        go_roundg (7 - (j + 1))
        case measure => omega
        case rel => exact ⟨j + 1, rfl, by go_num, by omega, HT2, H2, K2, R2, BB⟩
      | true =>
        have HE := hid ((ending_first hlt (HA.out.1 rfl) HT.out).trans HSt.out.size.symm)
        have p0 := N2.out.2.2.2.2
        clear HT HA N2
        go_wp2_with fail
        go_ret
        exact ⟨ret_int (by rw [HE.out]), BB.out⟩
    · have hj7 : j = 7 := by omega
      have k1 : ¬ ((j : Int) < 7) := by omega
      have HE := hid (ending_none (w := wide) (ps := ps) (fun i hi => HT.out i (by omega)))
      clear hj7 HT
      go_wp2_with fail
      go_ret
      exact ⟨ret_int (by rw [HE.out]; rfl), HB.out⟩
end
end Go.Proofs.YtiheagkgpbkkfaaDoor

/-
  The reference's rows of points in memory: plain.
-/
namespace Go.Proofs.YtiheagkgpbkkfaaDoor
open Go.RowKit
open Sc
set_option linter.unusedVariables false
section
variable {w : World} {v : Value} {cl : Int → Int} {ps : List Int} {ns : List Nat} {sure : Nat}
set_option maxRecDepth 100000 in
set_option maxHeartbeats 6400000 in
theorem plain_calls (h : Lm w v cl ps ns sure) (h0 : 0 < ps.length) :
    Calls Tryd.prog 32 #[v] w fun e w' => e = .returned (av (plain cl ps)) ∧ Below w.heap.size w w' := by
  obtain ⟨a1, n1, c1, a2, n2, c2, a3, n3, c3, rfl, h1, h2, h3⟩ := h.ex
  have hlen := h.len
  have bx : Below w.heap.size w (w.alloc (.cells #[.slice a1 n1 c1, .slice a2 n2 c2, .slice a3 n3 c3, .int .i64 (sure : Int)] 61)) := (Below.refl w.heap.size w).alloc (Nat.le_refl _) _
  have hs : (w.alloc (.cells #[.slice a1 n1 c1, .slice a2 n2 c2, .slice a3 n3 c3, .int .i64 (sure : Int)] 61)).heap.size = w.heap.size + 1 := by simp
  have bz := (Below.refl (w.alloc (.cells #[.slice a1 n1 c1, .slice a2 n2 c2, .slice a3 n3 c3, .int .i64 (sure : Int)] 61)).heap.size (w.alloc (.cells #[.slice a1 n1 c1, .slice a2 n2 c2, .slice a3 n3 c3, .int .i64 (sure : Int)] 61))).alloc (Nat.le_refl _) (.cells #[.int .i64 0, .int .i64 0] 64)
  have B0 := hid (bx.trans (bz.mono bx.size))
  have K0 := hid ((show B4 (w.alloc (.cells #[.slice a1 n1 c1, .slice a2 n2 c2, .slice a3 n3 c3, .int .i64 (sure : Int)] 61)) w.heap.size (.slice a1 n1 c1) (.slice a2 n2 c2) (.slice a3 n3 c3) (.int .i64 (sure : Int)) from heap_alloc_new w _).below bz)
  have H0 := hid (h.below B0.out)
  have hr := heap_alloc_new (w.alloc (.cells #[.slice a1 n1 c1, .slice a2 n2 c2, .slice a3 n3 c3, .int .i64 (sure : Int)] 61)) (.cells #[.int .i64 0, .int .i64 0] 64)
  rw [hs] at hr
  have R0 := hid hr
  have HP := hid (show plain cl ps = if 0 < ending false ps then (ending false ps, ending false ps) else if 0 < led cl 1 ps then more (led cl 1 ps) else if 0 < led cl 2 ps then more (led cl 2 ps) else if 0 < led cl 0 ps then more (led cl 0 ps) else blanks cl ps from rfl)
  have l1 := led_le (cl := cl) 1 ps
  have l2 := led_le (cl := cl) 2 ps
  have l0 := led_le (cl := cl) 0 ps
  have el := ending_le false ps
  clear h h1 h2 h3 hr hs bx bz
  have d0 := K0.out.c0
  have d1 := K0.out.c1
  have d2 := K0.out.c2
  have d3 := K0.out.c3
  obtain ⟨E, hE⟩ : ∃ E, ending false ps = E := ⟨_, rfl⟩
  obtain ⟨L1, hL1⟩ : ∃ E, led cl 1 ps = E := ⟨_, rfl⟩
  obtain ⟨L2, hL2⟩ : ∃ E, led cl 2 ps = E := ⟨_, rfl⟩
  obtain ⟨L0, hL0⟩ : ∃ E, led cl 0 ps = E := ⟨_, rfl⟩
  have EE := hid (And.intro hE (And.intro hL1 (And.intro hL2 hL0)))
  rw [hE, hL1, hL2, hL0] at HP
  rw [hE] at el
  rw [hL1] at l1
  rw [hL2] at l2
  rw [hL0] at l0
  clear hE hL1 hL2 hL0
  go_enter Tryd.func32, Tryd.ntmps32
  go_wp2_with fail
  refine (ending_calls H0.out false).mono ?_
  rintro e w1 ⟨rfl, b⟩
  rw [EE.out.1]
  have H1 := hid (H0.out.below b)
  have K1 := hid (K0.out.below b)
  have R1 := hid ((b.block _ (Array.getElem?_eq_some_iff.1 R0.out).1).trans R0.out)
  have B1 := hid (B0.out.trans (b.mono B0.out.size))
  clear b d0 d1 d2 d3 H0 K0 R0 B0
  have d0 := K1.out.c0
  have d1 := K1.out.c1
  have d2 := K1.out.c2
  have d3 := K1.out.c3
  by_cases g0 : 0 < E
  · have t0 : (0 : Int) < E := by omega
    obtain ⟨X, hX⟩ : ∃ X : Int, X = (E : Int) := ⟨_, rfl⟩
    have HF := hid (show av (plain cl ps) = .agg #[.int .i64 X, .int .i64 X] by rw [HP.out, if_pos g0, hX]; rfl)
    rw [← hX] at t0
    rw [← hX]
    clear hX HP
    have hr := R1.out
    obtain ⟨⟨p0, q0⟩, ⟨u1, v1⟩, r0, r1⟩ := two_e hr (.int .i64 X) (.int .i64 X)
    have BB := hid (below_two B1.out (R := w.heap.size + 1) (by omega) (.int .i64 X) (.int .i64 X))
    clear hr
    go_wp2_with fail
    refine bodyPost_ret (v := .agg #[.int .i64 X, .int .i64 X]) (by simp [results, Tryd.results32, go_sem, r0, r1]) rfl ?_
    exact ⟨by rw [HF.out], BB.out⟩
  have t0 : ¬ (0 : Int) < E := by omega
  rw [if_neg g0] at HP
  go_wp2_with fail
  refine (led_calls H1.out 1 h0).mono ?_
  rintro e w2 ⟨rfl, b⟩
  rw [EE.out.2.1]
  have H2 := hid (H1.out.below b)
  have K2 := hid (K1.out.below b)
  have R2 := hid ((b.block _ (Array.getElem?_eq_some_iff.1 R1.out).1).trans R1.out)
  have B2 := hid (B1.out.trans (b.mono B1.out.size))
  clear b d0 d1 d2 d3 H1 K1 R1 B1
  have d0 := K2.out.c0
  have d1 := K2.out.c1
  have d2 := K2.out.c2
  have d3 := K2.out.c3
  by_cases g2 : 0 < L1
  · have t2 : (0 : Int) < L1 := by omega
    obtain ⟨X, hX⟩ : ∃ X : Int, X = (L1 : Int) := ⟨_, rfl⟩
    obtain ⟨Y, hY⟩ : ∃ Y : Int, Y = ((L1 + 1 : Nat) : Int) := ⟨_, rfl⟩
    have HF := hid (show av (plain cl ps) = .agg #[.int .i64 X, .int .i64 Y] by rw [HP.out, if_pos g2, hX, hY]; rfl)
    have HM := hid (show av (more L1) = .agg #[.int .i64 X, .int .i64 Y] by rw [hX, hY]; rfl)
    clear hX hY HP
    go_wp2_with fail
    refine (led_calls H2.out 1 h0).mono ?_
    rintro e w7 ⟨rfl, b⟩
    rw [EE.out.2.1]
    have H7 := hid (H2.out.below b)
    have K7 := hid (K2.out.below b)
    have R7 := hid ((b.block _ (Array.getElem?_eq_some_iff.1 R2.out).1).trans R2.out)
    have B7 := hid (B2.out.trans (b.mono B2.out.size))
    clear b d0 d1 d2 d3 H2 K2 R2 B2
    have d0 := K7.out.c0
    have d1 := K7.out.c1
    have d2 := K7.out.c2
    have d3 := K7.out.c3
    go_wp2_with fail
    refine (more_calls L1 _ (by omega)).mono ?_
    rintro e w8 ⟨rfl, b⟩
    rw [HM.out]
    have H8 := hid (H7.out.below b)
    have K8 := hid (K7.out.below b)
    have R8 := hid ((b.block _ (Array.getElem?_eq_some_iff.1 R7.out).1).trans R7.out)
    have B8 := hid (B7.out.trans (b.mono B7.out.size))
    clear b d0 d1 d2 d3 H7 K7 R7 B7
    have d0 := K8.out.c0
    have d1 := K8.out.c1
    have d2 := K8.out.c2
    have d3 := K8.out.c3
    have hr := R8.out
    obtain ⟨⟨p0, q0⟩, ⟨u1, v1⟩, r0, r1⟩ := two_e hr (.int .i64 X) (.int .i64 Y)
    have BB := hid (below_two B8.out (R := w.heap.size + 1) (by omega) (.int .i64 X) (.int .i64 Y))
    clear hr
    go_wp2_with fail
    refine bodyPost_ret (v := .agg #[.int .i64 X, .int .i64 Y]) (by simp [results, Tryd.results32, go_sem, r0, r1]) rfl ?_
    exact ⟨by rw [HF.out], BB.out⟩
  have t2 : ¬ (0 : Int) < L1 := by omega
  rw [if_neg g2] at HP
  go_wp2_with fail
  refine (led_calls H2.out 2 h0).mono ?_
  rintro e w3 ⟨rfl, b⟩
  rw [EE.out.2.2.1]
  have H3 := hid (H2.out.below b)
  have K3 := hid (K2.out.below b)
  have R3 := hid ((b.block _ (Array.getElem?_eq_some_iff.1 R2.out).1).trans R2.out)
  have B3 := hid (B2.out.trans (b.mono B2.out.size))
  clear b d0 d1 d2 d3 H2 K2 R2 B2
  have d0 := K3.out.c0
  have d1 := K3.out.c1
  have d2 := K3.out.c2
  have d3 := K3.out.c3
  by_cases g3 : 0 < L2
  · have t3 : (0 : Int) < L2 := by omega
    obtain ⟨X, hX⟩ : ∃ X : Int, X = (L2 : Int) := ⟨_, rfl⟩
    obtain ⟨Y, hY⟩ : ∃ Y : Int, Y = ((L2 + 1 : Nat) : Int) := ⟨_, rfl⟩
    have HF := hid (show av (plain cl ps) = .agg #[.int .i64 X, .int .i64 Y] by rw [HP.out, if_pos g3, hX, hY]; rfl)
    have HM := hid (show av (more L2) = .agg #[.int .i64 X, .int .i64 Y] by rw [hX, hY]; rfl)
    clear hX hY HP
    go_wp2_with fail
    refine (led_calls H3.out 2 h0).mono ?_
    rintro e w7 ⟨rfl, b⟩
    rw [EE.out.2.2.1]
    have H7 := hid (H3.out.below b)
    have K7 := hid (K3.out.below b)
    have R7 := hid ((b.block _ (Array.getElem?_eq_some_iff.1 R3.out).1).trans R3.out)
    have B7 := hid (B3.out.trans (b.mono B3.out.size))
    clear b d0 d1 d2 d3 H3 K3 R3 B3
    have d0 := K7.out.c0
    have d1 := K7.out.c1
    have d2 := K7.out.c2
    have d3 := K7.out.c3
    go_wp2_with fail
    refine (more_calls L2 _ (by omega)).mono ?_
    rintro e w8 ⟨rfl, b⟩
    rw [HM.out]
    have H8 := hid (H7.out.below b)
    have K8 := hid (K7.out.below b)
    have R8 := hid ((b.block _ (Array.getElem?_eq_some_iff.1 R7.out).1).trans R7.out)
    have B8 := hid (B7.out.trans (b.mono B7.out.size))
    clear b d0 d1 d2 d3 H7 K7 R7 B7
    have d0 := K8.out.c0
    have d1 := K8.out.c1
    have d2 := K8.out.c2
    have d3 := K8.out.c3
    have hr := R8.out
    obtain ⟨⟨p0, q0⟩, ⟨u1, v1⟩, r0, r1⟩ := two_e hr (.int .i64 X) (.int .i64 Y)
    have BB := hid (below_two B8.out (R := w.heap.size + 1) (by omega) (.int .i64 X) (.int .i64 Y))
    clear hr
    go_wp2_with fail
    refine bodyPost_ret (v := .agg #[.int .i64 X, .int .i64 Y]) (by simp [results, Tryd.results32, go_sem, r0, r1]) rfl ?_
    exact ⟨by rw [HF.out], BB.out⟩
  have t3 : ¬ (0 : Int) < L2 := by omega
  rw [if_neg g3] at HP
  go_wp2_with fail
  refine (led_calls H3.out 0 h0).mono ?_
  rintro e w4 ⟨rfl, b⟩
  rw [EE.out.2.2.2]
  have H4 := hid (H3.out.below b)
  have K4 := hid (K3.out.below b)
  have R4 := hid ((b.block _ (Array.getElem?_eq_some_iff.1 R3.out).1).trans R3.out)
  have B4 := hid (B3.out.trans (b.mono B3.out.size))
  clear b d0 d1 d2 d3 H3 K3 R3 B3
  have d0 := K4.out.c0
  have d1 := K4.out.c1
  have d2 := K4.out.c2
  have d3 := K4.out.c3
  by_cases g4 : 0 < L0
  · have t4 : (0 : Int) < L0 := by omega
    obtain ⟨X, hX⟩ : ∃ X : Int, X = (L0 : Int) := ⟨_, rfl⟩
    obtain ⟨Y, hY⟩ : ∃ Y : Int, Y = ((L0 + 1 : Nat) : Int) := ⟨_, rfl⟩
    have HF := hid (show av (plain cl ps) = .agg #[.int .i64 X, .int .i64 Y] by rw [HP.out, if_pos g4, hX, hY]; rfl)
    have HM := hid (show av (more L0) = .agg #[.int .i64 X, .int .i64 Y] by rw [hX, hY]; rfl)
    clear hX hY HP
    go_wp2_with fail
    refine (led_calls H4.out 0 h0).mono ?_
    rintro e w7 ⟨rfl, b⟩
    rw [EE.out.2.2.2]
    have H7 := hid (H4.out.below b)
    have K7 := hid (K4.out.below b)
    have R7 := hid ((b.block _ (Array.getElem?_eq_some_iff.1 R4.out).1).trans R4.out)
    have B7 := hid (B4.out.trans (b.mono B4.out.size))
    clear b d0 d1 d2 d3 H4 K4 R4 B4
    have d0 := K7.out.c0
    have d1 := K7.out.c1
    have d2 := K7.out.c2
    have d3 := K7.out.c3
    go_wp2_with fail
    refine (more_calls L0 _ (by omega)).mono ?_
    rintro e w8 ⟨rfl, b⟩
    rw [HM.out]
    have H8 := hid (H7.out.below b)
    have K8 := hid (K7.out.below b)
    have R8 := hid ((b.block _ (Array.getElem?_eq_some_iff.1 R7.out).1).trans R7.out)
    have B8 := hid (B7.out.trans (b.mono B7.out.size))
    clear b d0 d1 d2 d3 H7 K7 R7 B7
    have d0 := K8.out.c0
    have d1 := K8.out.c1
    have d2 := K8.out.c2
    have d3 := K8.out.c3
    have hr := R8.out
    obtain ⟨⟨p0, q0⟩, ⟨u1, v1⟩, r0, r1⟩ := two_e hr (.int .i64 X) (.int .i64 Y)
    have BB := hid (below_two B8.out (R := w.heap.size + 1) (by omega) (.int .i64 X) (.int .i64 Y))
    clear hr
    go_wp2_with fail
    refine bodyPost_ret (v := .agg #[.int .i64 X, .int .i64 Y]) (by simp [results, Tryd.results32, go_sem, r0, r1]) rfl ?_
    exact ⟨by rw [HF.out], BB.out⟩
  have t4 : ¬ (0 : Int) < L0 := by omega
  rw [if_neg g4] at HP
  obtain ⟨⟨x, y⟩, hb⟩ : ∃ q, blanks cl ps = q := ⟨_, rfl⟩
  obtain ⟨X, hX⟩ : ∃ X : Int, X = (x : Int) := ⟨_, rfl⟩
  obtain ⟨Y, hY⟩ : ∃ Y : Int, Y = (y : Int) := ⟨_, rfl⟩
  have HF := hid (show av (plain cl ps) = .agg #[.int .i64 X, .int .i64 Y] by rw [HP.out, hb, hX, hY]; rfl)
  have HM := hid (show av (blanks cl ps) = .agg #[.int .i64 X, .int .i64 Y] by rw [hb, hX, hY]; rfl)
  clear hX hY HP hb
  go_wp2_with fail
  refine (blanks_calls H4.out).mono ?_
  rintro e w8 ⟨rfl, b⟩
  rw [HM.out]
  have H8 := hid (H4.out.below b)
  have K8 := hid (K4.out.below b)
  have R8 := hid ((b.block _ (Array.getElem?_eq_some_iff.1 R4.out).1).trans R4.out)
  have B8 := hid (B4.out.trans (b.mono B4.out.size))
  clear b d0 d1 d2 d3 H4 K4 R4 B4
  have d0 := K8.out.c0
  have d1 := K8.out.c1
  have d2 := K8.out.c2
  have d3 := K8.out.c3
  have hr := R8.out
  obtain ⟨⟨p0, q0⟩, ⟨u1, v1⟩, r0, r1⟩ := two_e hr (.int .i64 X) (.int .i64 Y)
  have BB := hid (below_two B8.out (R := w.heap.size + 1) (by omega) (.int .i64 X) (.int .i64 Y))
  clear hr
  go_wp2_with fail
  refine bodyPost_ret (v := .agg #[.int .i64 X, .int .i64 Y]) (by simp [results, Tryd.results32, go_sem, r0, r1]) rfl ?_
  exact ⟨by rw [HF.out], BB.out⟩
end
end Go.Proofs.YtiheagkgpbkkfaaDoor

/-
  The reference's rows of points in memory: wide.
-/
namespace Go.Proofs.YtiheagkgpbkkfaaDoor
open Go.RowKit
open Sc
set_option linter.unusedVariables false
section
variable {w : World} {v : Value} {cl : Int → Int} {ps : List Int} {ns : List Nat} {sure : Nat}
theorem lastL_more : ∀ {i : Nat} {l : List Int}, i < l.length → lastL cl (i + 1) l = if cl (Pr.it l i) = 4 then i + 1 else lastL cl i l
  | _, [], h => by simp at h
  | 0, p :: l, _ => by
    unfold lastL
    rw [show lastL cl 0 l = 0 from by unfold lastL; rfl, if_neg (by omega)]
    rfl
  | i + 1, p :: l, h => by
    have ih := lastL_more (i := i) (l := l) (by simpa using h)
    have e : Pr.it (p :: l) (i + 1) = Pr.it l i := by simp [Pr.it]
    rw [e, lastL, ih]
    by_cases h4 : cl (Pr.it l i) = 4
    · rw [if_pos h4, if_pos h4, if_pos (by omega)]
    · rw [if_neg h4, if_neg h4]
      conv => rhs; unfold lastL
set_option maxRecDepth 100000 in
set_option maxHeartbeats 12800000 in
theorem wide_calls (h : Lm w v cl ps ns sure) (h0 : 0 < ps.length) :
    Calls Tryd.prog 33 #[v] w fun e w' => e = .returned (av (wide cl ps)) ∧ Below w.heap.size w w' := by
  obtain ⟨a1, n1, c1, a2, n2, c2, a3, n3, c3, rfl, h1, h2, h3⟩ := h.ex
  have hlen := h.len
  have hn2 := h2.len
  rw [List.length_map] at hn2
  have bx : Below w.heap.size w (w.alloc (.cells #[.slice a1 n1 c1, .slice a2 n2 c2, .slice a3 n3 c3, .int .i64 (sure : Int)] 61)) := (Below.refl w.heap.size w).alloc (Nat.le_refl _) _
  have hs : (w.alloc (.cells #[.slice a1 n1 c1, .slice a2 n2 c2, .slice a3 n3 c3, .int .i64 (sure : Int)] 61)).heap.size = w.heap.size + 1 := by simp
  have bz := (Below.refl (w.alloc (.cells #[.slice a1 n1 c1, .slice a2 n2 c2, .slice a3 n3 c3, .int .i64 (sure : Int)] 61)).heap.size (w.alloc (.cells #[.slice a1 n1 c1, .slice a2 n2 c2, .slice a3 n3 c3, .int .i64 (sure : Int)] 61))).alloc (Nat.le_refl _) (.cells #[.int .i64 0, .int .i64 0] 64)
  have B0 := hid (bx.trans (bz.mono bx.size))
  have K0 := hid ((show B4 (w.alloc (.cells #[.slice a1 n1 c1, .slice a2 n2 c2, .slice a3 n3 c3, .int .i64 (sure : Int)] 61)) w.heap.size (.slice a1 n1 c1) (.slice a2 n2 c2) (.slice a3 n3 c3) (.int .i64 (sure : Int)) from heap_alloc_new w _).below bz)
  have H0 := hid (h.below B0.out)
  have hr := heap_alloc_new (w.alloc (.cells #[.slice a1 n1 c1, .slice a2 n2 c2, .slice a3 n3 c3, .int .i64 (sure : Int)] 61)) (.cells #[.int .i64 0, .int .i64 0] 64)
  rw [hs] at hr
  have R0 := hid hr
  obtain ⟨bb, off, rfl, hbl, hcell⟩ := h2.at' (by omega)
  have hc0 := hcell 0 (by omega)
  rw [it_map cl ps h0, Nat.add_zero] at hc0
  have hH : headC cl ps = cl (Pr.it ps 0) := by
    cases ps with
    | nil => simp at h0
    | cons p l => rfl
  rw [← hH] at hc0
  obtain ⟨y, hy⟩ : ∃ y, headC cl ps = y := ⟨_, rfl⟩
  rw [hy] at hc0
  have P0 := hid ((B0.out.cell (p := ⟨bb, off, none⟩) hbl).trans hc0)
  have I0 := hid (h2.below B0.out)
  have p0 := P0.out
  have HP := hid (show wide cl ps = if 0 < ending true ps then (ending true ps, ending true ps) else if headC cl ps = 1 then more (rn cl 1 ps) else if (headC cl ps ≠ 2 ∧ headC cl ps ≠ 4) ∧ 0 < rn cl 1 (ps.drop 1) then more (1 + rn cl 1 (ps.drop 1)) else if 3 ≤ rn cl 2 ps then (3, 3) else if 0 < rn cl 2 ps then more (rn cl 2 ps) else if 0 < led cl 0 ps then more (led cl 0 ps + rn cl 4 (ps.drop (led cl 0 ps))) else if 0 < lastL cl (sp cl ps) ps then (lastL cl (sp cl ps) ps, sp cl ps + 1) else blanks cl ps from rfl)
  have el := ending_le true ps
  have l0 := led_le (cl := cl) 0 ps
  have x1 : rn cl 1 ps ≤ ps.length := tw_le _ _
  have x2 : rn cl 2 ps ≤ ps.length := tw_le _ _
  have x3 : sp cl ps ≤ ps.length := tw_le _ _
  have x4 : rn cl 1 (ps.drop 1) ≤ (ps.drop 1).length := tw_le _ _
  have x5 : rn cl 4 (ps.drop (led cl 0 ps)) ≤ (ps.drop (led cl 0 ps)).length := tw_le _ _
  rw [List.length_drop] at x4 x5
  clear h h1 h2 h3 hr hs bx bz hcell hc0
  have d0 := K0.out.c0
  have d1 := K0.out.c1
  have d2 := K0.out.c2
  have d3 := K0.out.c3
  obtain ⟨E, hE⟩ : ∃ E, ending true ps = E := ⟨_, rfl⟩
  obtain ⟨N1, hN1⟩ : ∃ E, rn cl 1 ps = E := ⟨_, rfl⟩
  obtain ⟨D1, hD1⟩ : ∃ E, rn cl 1 (ps.drop 1) = E := ⟨_, rfl⟩
  obtain ⟨N2, hN2⟩ : ∃ E, rn cl 2 ps = E := ⟨_, rfl⟩
  obtain ⟨S0, hS0⟩ : ∃ E, sp cl ps = E := ⟨_, rfl⟩
  rw [hE, hy, hN1, hD1, hN2, hS0] at HP
  rw [hE] at el
  rw [hN1] at x1
  rw [hN2] at x2
  rw [hS0] at x3
  rw [hD1] at x4
  obtain ⟨L0, hL0⟩ : ∃ E, led cl 0 ps = E := ⟨_, rfl⟩
  rw [hL0] at HP l0 x5
  obtain ⟨R4, hR4⟩ : ∃ E, rn cl 4 (ps.drop L0) = E := ⟨_, rfl⟩
  rw [hR4] at HP x5
  have EE := hid (show ending true ps = E ∧ (rn cl 1 ps = N1 ∧ rn cl 1 (ps.drop 1) = D1) ∧ rn cl 2 ps = N2 ∧ led cl 0 ps = L0 ∧ sp cl ps = S0 ∧ rn cl 4 (ps.drop L0) = R4 from ⟨hE, ⟨hN1, hD1⟩, hN2, hL0, hS0, hR4⟩)
  clear hE hN1 hD1 hN2 hS0 hL0 hR4 hH hy
  go_enter Tryd.func33, Tryd.ntmps33
  go_wp2_with fail
  refine (ending_calls H0.out true).mono ?_
  rintro e w1 ⟨rfl, b⟩
  rw [EE.out.1]
  have H1 := hid (H0.out.below b)
  have K1 := hid (K0.out.below b)
  have I1 := hid (I0.out.below b)
  have R1 := hid ((b.block _ (Array.getElem?_eq_some_iff.1 R0.out).1).trans R0.out)
  have B1 := hid (B0.out.trans (b.mono B0.out.size))
  have P1 := hid ((b.cell (p := ⟨bb, off, none⟩) (Nat.lt_of_lt_of_le hbl B0.out.size)).trans P0.out)
  clear b d0 d1 d2 d3 p0 H0 K0 R0 B0 P0 I0
  have d0 := K1.out.c0
  have d1 := K1.out.c1
  have d2 := K1.out.c2
  have d3 := K1.out.c3
  have p0 := P1.out
  have hn0 : (0 : Int) < n2 := by omega
  by_cases g0 : 0 < E
  · have t0 : (0 : Int) < E := by omega
    obtain ⟨X, hX⟩ : ∃ X : Int, X = (E : Int) := ⟨_, rfl⟩
    have HF := hid (show av (wide cl ps) = .agg #[.int .i64 X, .int .i64 X] by rw [HP.out, if_pos g0, hX]; rfl)
    rw [← hX] at t0
    rw [← hX]
    clear hX HP
    have hr := R1.out
    obtain ⟨⟨s0, q0⟩, ⟨u1, v1⟩, r0, r1⟩ := two_e hr (.int .i64 X) (.int .i64 X)
    have BB := hid (below_two B1.out (R := w.heap.size + 1) (by omega) (.int .i64 X) (.int .i64 X))
    clear hr
    go_wp2_with fail
    refine bodyPost_ret (v := .agg #[.int .i64 X, .int .i64 X]) (by simp [results, Tryd.results33, go_sem, r0, r1]) rfl ?_
    exact ⟨by rw [HF.out], BB.out⟩
  have t0 : ¬ (0 : Int) < E := by omega
  rw [if_neg g0] at HP
  by_cases gy1 : y = 1
  · subst gy1
    rw [if_pos rfl] at HP
    go_wp2_with fail
    refine (lrow_calls H1.out 0 1 (by omega)).mono ?_
    rintro e w2 ⟨rfl, b⟩
    rw [List.drop_zero, EE.out.2.1.1]
    have H2 := hid (H1.out.below b)
    have K2 := hid (K1.out.below b)
    have I2 := hid (I1.out.below b)
    have R2 := hid ((b.block _ (Array.getElem?_eq_some_iff.1 R1.out).1).trans R1.out)
    have B2 := hid (B1.out.trans (b.mono B1.out.size))
    have P2 := hid ((b.cell (p := ⟨bb, off, none⟩) (Nat.lt_of_lt_of_le hbl B1.out.size)).trans P1.out)
    clear b d0 d1 d2 d3 p0 H1 K1 R1 B1 P1 I1
    have d0 := K2.out.c0
    have d1 := K2.out.c1
    have d2 := K2.out.c2
    have d3 := K2.out.c3
    have p0 := P2.out
    obtain ⟨X, hX⟩ : ∃ X : Int, X = ((N1 : Nat) : Int) := ⟨_, rfl⟩
    obtain ⟨Y, hY⟩ : ∃ Y : Int, Y = ((N1 + 1 : Nat) : Int) := ⟨_, rfl⟩
    have HF := hid (show av (wide cl ps) = .agg #[.int .i64 X, .int .i64 Y] by rw [HP.out, hX, hY]; rfl)
    have HM := hid (show av (more N1) = .agg #[.int .i64 X, .int .i64 Y] by rw [hX, hY]; rfl)
    clear hX hY HP
    go_wp2_with fail
    refine (more_calls N1 _ (by omega)).mono ?_
    rintro e w3 ⟨rfl, b⟩
    rw [HM.out]
    have H3 := hid (H2.out.below b)
    have K3 := hid (K2.out.below b)
    have I3 := hid (I2.out.below b)
    have R3 := hid ((b.block _ (Array.getElem?_eq_some_iff.1 R2.out).1).trans R2.out)
    have B3 := hid (B2.out.trans (b.mono B2.out.size))
    have P3 := hid ((b.cell (p := ⟨bb, off, none⟩) (Nat.lt_of_lt_of_le hbl B2.out.size)).trans P2.out)
    clear b d0 d1 d2 d3 p0 H2 K2 R2 B2 P2 I2
    have d0 := K3.out.c0
    have d1 := K3.out.c1
    have d2 := K3.out.c2
    have d3 := K3.out.c3
    have p0 := P3.out
    have hr := R3.out
    obtain ⟨⟨s0, q0⟩, ⟨u1, v1⟩, r0, r1⟩ := two_e hr (.int .i64 X) (.int .i64 Y)
    have BB := hid (below_two B3.out (R := w.heap.size + 1) (by omega) (.int .i64 X) (.int .i64 Y))
    clear hr
    go_wp2_with fail
    refine bodyPost_ret (v := .agg #[.int .i64 X, .int .i64 Y]) (by simp [results, Tryd.results33, go_sem, r0, r1]) rfl ?_
    exact ⟨by rw [HF.out], BB.out⟩
  have y1 : (y == 1) = false := by simpa using gy1
  rw [if_neg gy1] at HP
  by_cases gy2 : y = 2
  · subst gy2
    rw [if_neg (fun e => e.1.1 rfl)] at HP
    go_wp2_with fail
    refine (lrow_calls H1.out 0 2 (by omega)).mono ?_
    rintro e w20 ⟨rfl, b⟩
    rw [List.drop_zero, EE.out.2.2.1]
    have H20 := hid (H1.out.below b)
    have K20 := hid (K1.out.below b)
    have I20 := hid (I1.out.below b)
    have R20 := hid ((b.block _ (Array.getElem?_eq_some_iff.1 R1.out).1).trans R1.out)
    have B20 := hid (B1.out.trans (b.mono B1.out.size))
    have P20 := hid ((b.cell (p := ⟨bb, off, none⟩) (Nat.lt_of_lt_of_le hbl B1.out.size)).trans P1.out)
    clear b d0 d1 d2 d3 p0 H1 K1 R1 B1 P1 I1
    have d0 := K20.out.c0
    have d1 := K20.out.c1
    have d2 := K20.out.c2
    have d3 := K20.out.c3
    have p0 := P20.out
    by_cases g3 : 3 ≤ N2
    · have t3 : (3 : Int) ≤ N2 := by omega
      obtain ⟨X, hX⟩ : ∃ X : Int, X = ((3 : Nat) : Int) := ⟨_, rfl⟩
      obtain ⟨Y, hY⟩ : ∃ Y : Int, Y = ((3 : Nat) : Int) := ⟨_, rfl⟩
      have HF := hid (show av (wide cl ps) = .agg #[.int .i64 X, .int .i64 Y] by rw [HP.out, if_pos g3, hX, hY]; rfl)
      rw [show X = 3 from hX, show Y = 3 from hY] at HF
      clear hX hY HP
      have hr := R20.out
      obtain ⟨⟨s0, q0⟩, ⟨u1, v1⟩, r0, r1⟩ := two_e hr (.int .i64 3) (.int .i64 3)
      have BB := hid (below_two B20.out (R := w.heap.size + 1) (by omega) (.int .i64 3) (.int .i64 3))
      clear hr
      go_wp2_with fail
      refine bodyPost_ret (v := .agg #[.int .i64 3, .int .i64 3]) (by simp [results, Tryd.results33, go_sem, r0, r1]) rfl ?_
      exact ⟨by rw [HF.out], BB.out⟩
    have t3 : ¬ (3 : Int) ≤ N2 := by omega
    rw [if_neg g3] at HP
    by_cases g4 : 0 < N2
    · have t4 : (0 : Int) < N2 := by omega
      obtain ⟨X, hX⟩ : ∃ X : Int, X = ((N2 : Nat) : Int) := ⟨_, rfl⟩
      obtain ⟨Y, hY⟩ : ∃ Y : Int, Y = ((N2 + 1 : Nat) : Int) := ⟨_, rfl⟩
      have HF := hid (show av (wide cl ps) = .agg #[.int .i64 X, .int .i64 Y] by rw [HP.out, if_pos g4, hX, hY]; rfl)
      have HM := hid (show av (more N2) = .agg #[.int .i64 X, .int .i64 Y] by rw [hX, hY]; rfl)
      clear hX hY HP
      go_wp2_with fail
      refine (more_calls N2 _ (by omega)).mono ?_
      rintro e w21 ⟨rfl, b⟩
      rw [HM.out]
      have H21 := hid (H20.out.below b)
      have K21 := hid (K20.out.below b)
      have I21 := hid (I20.out.below b)
      have R21 := hid ((b.block _ (Array.getElem?_eq_some_iff.1 R20.out).1).trans R20.out)
      have B21 := hid (B20.out.trans (b.mono B20.out.size))
      have P21 := hid ((b.cell (p := ⟨bb, off, none⟩) (Nat.lt_of_lt_of_le hbl B20.out.size)).trans P20.out)
      clear b d0 d1 d2 d3 p0 H20 K20 R20 B20 P20 I20
      have d0 := K21.out.c0
      have d1 := K21.out.c1
      have d2 := K21.out.c2
      have d3 := K21.out.c3
      have p0 := P21.out
      have hr := R21.out
      obtain ⟨⟨s0, q0⟩, ⟨u1, v1⟩, r0, r1⟩ := two_e hr (.int .i64 X) (.int .i64 Y)
      have BB := hid (below_two B21.out (R := w.heap.size + 1) (by omega) (.int .i64 X) (.int .i64 Y))
      clear hr
      go_wp2_with fail
      refine bodyPost_ret (v := .agg #[.int .i64 X, .int .i64 Y]) (by simp [results, Tryd.results33, go_sem, r0, r1]) rfl ?_
      exact ⟨by rw [HF.out], BB.out⟩
    have t4 : ¬ (0 : Int) < N2 := by omega
    rw [if_neg g4] at HP
    go_wp2_with fail
    refine (led_calls H20.out 0 h0).mono ?_
    rintro e w22 ⟨rfl, b⟩
    rw [EE.out.2.2.2.1]
    have H22 := hid (H20.out.below b)
    have K22 := hid (K20.out.below b)
    have I22 := hid (I20.out.below b)
    have R22 := hid ((b.block _ (Array.getElem?_eq_some_iff.1 R20.out).1).trans R20.out)
    have B22 := hid (B20.out.trans (b.mono B20.out.size))
    have P22 := hid ((b.cell (p := ⟨bb, off, none⟩) (Nat.lt_of_lt_of_le hbl B20.out.size)).trans P20.out)
    clear b d0 d1 d2 d3 p0 H20 K20 R20 B20 P20 I20
    have d0 := K22.out.c0
    have d1 := K22.out.c1
    have d2 := K22.out.c2
    have d3 := K22.out.c3
    have p0 := P22.out
    by_cases g5 : 0 < L0
    · have t5 : (0 : Int) < L0 := by omega
      go_wp2_with fail
      refine (lrow_calls H22.out L0 4 (by omega)).mono ?_
      rintro e w23 ⟨rfl, b⟩
      rw [EE.out.2.2.2.2.2]
      have H23 := hid (H22.out.below b)
      have K23 := hid (K22.out.below b)
      have I23 := hid (I22.out.below b)
      have R23 := hid ((b.block _ (Array.getElem?_eq_some_iff.1 R22.out).1).trans R22.out)
      have B23 := hid (B22.out.trans (b.mono B22.out.size))
      have P23 := hid ((b.cell (p := ⟨bb, off, none⟩) (Nat.lt_of_lt_of_le hbl B22.out.size)).trans P22.out)
      clear b d0 d1 d2 d3 p0 H22 K22 R22 B22 P22 I22
      have d0 := K23.out.c0
      have d1 := K23.out.c1
      have d2 := K23.out.c2
      have d3 := K23.out.c3
      have p0 := P23.out
      have e9 : IntKind.i64.wrap ((L0 : Int) + R4) = ((L0 + R4 : Nat) : Int) := by rw [i64_in (by omega) (by omega)]; omega
      obtain ⟨X, hX⟩ : ∃ X : Int, X = ((L0 + R4 : Nat) : Int) := ⟨_, rfl⟩
      obtain ⟨Y, hY⟩ : ∃ Y : Int, Y = ((L0 + R4 + 1 : Nat) : Int) := ⟨_, rfl⟩
      have HF := hid (show av (wide cl ps) = .agg #[.int .i64 X, .int .i64 Y] by rw [HP.out, if_pos g5, hX, hY]; rfl)
      obtain ⟨NN, hNN⟩ : ∃ NN : Nat, NN = L0 + R4 := ⟨_, rfl⟩
      rw [← hNN] at hX hY e9
      have nn1 : NN ≤ 1000000 := by omega
      clear hNN
      have HM := hid (show av (more NN) = .agg #[.int .i64 X, .int .i64 Y] by rw [hX, hY]; rfl)
      clear hX hY HP
      go_wp2_with fail
      refine (more_calls NN _ nn1).mono ?_
      rintro e w24 ⟨rfl, b⟩
      rw [HM.out]
      have H24 := hid (H23.out.below b)
      have K24 := hid (K23.out.below b)
      have I24 := hid (I23.out.below b)
      have R24 := hid ((b.block _ (Array.getElem?_eq_some_iff.1 R23.out).1).trans R23.out)
      have B24 := hid (B23.out.trans (b.mono B23.out.size))
      have P24 := hid ((b.cell (p := ⟨bb, off, none⟩) (Nat.lt_of_lt_of_le hbl B23.out.size)).trans P23.out)
      clear b d0 d1 d2 d3 p0 H23 K23 R23 B23 P23 I23
      have d0 := K24.out.c0
      have d1 := K24.out.c1
      have d2 := K24.out.c2
      have d3 := K24.out.c3
      have p0 := P24.out
      have hr := R24.out
      obtain ⟨⟨s0, q0⟩, ⟨u1, v1⟩, r0, r1⟩ := two_e hr (.int .i64 X) (.int .i64 Y)
      have BB := hid (below_two B24.out (R := w.heap.size + 1) (by omega) (.int .i64 X) (.int .i64 Y))
      clear hr
      go_wp2_with fail
      refine bodyPost_ret (v := .agg #[.int .i64 X, .int .i64 Y]) (by simp [results, Tryd.results33, go_sem, r0, r1]) rfl ?_
      exact ⟨by rw [HF.out], BB.out⟩
    have t5 : ¬ (0 : Int) < L0 := by omega
    rw [if_neg g5] at HP
    go_wp2_with fail
    refine (spaces_calls H22.out 0 (by omega)).mono ?_
    rintro e w25 ⟨rfl, b⟩
    rw [List.drop_zero, EE.out.2.2.2.2.1]
    have H25 := hid (H22.out.below b)
    have K25 := hid (K22.out.below b)
    have I25 := hid (I22.out.below b)
    have R25 := hid ((b.block _ (Array.getElem?_eq_some_iff.1 R22.out).1).trans R22.out)
    have B25 := hid (B22.out.trans (b.mono B22.out.size))
    have P25 := hid ((b.cell (p := ⟨bb, off, none⟩) (Nat.lt_of_lt_of_le hbl B22.out.size)).trans P22.out)
    clear b d0 d1 d2 d3 p0 H22 K22 R22 B22 P22 I22
    have d0 := K25.out.c0
    have d1 := K25.out.c1
    have d2 := K25.out.c2
    have d3 := K25.out.c3
    have p0 := P25.out
    go_wp2_with fail
    go_loopg [5, 6] S0 (fun r lv iv wr => ∃ (i q : Nat), r = S0 - i ∧ iv = .int .i64 (i : Int) ∧ lv = .int .i64 (q : Int) ∧ i ≤ S0 ∧ q ≤ S0 ∧ Hid (q = lastL cl i ps) ∧ wr = w25)
    case atStart => exact ⟨0, 0, rfl, rfl, rfl, by omega, by omega, hid (by unfold lastL; rfl), rfl⟩
    case round =>
      obtain ⟨i, q, rfl, rfl, rfl, hi, hq, HQ, rfl⟩ := hrel
      have i0 : (0 : Int) ≤ i := by omega
      have e1 : IntKind.i64.wrap ((i : Int) + 1) = i + 1 := i64_in (by omega) (by omega)
      by_cases hlt : i < S0
      · have i1 : (i : Int) < S0 := by omega
        have i2 : (i : Int) < n2 := by omega
        obtain ⟨b', off', hab, _, hc⟩ := I25.out.at' (by omega)
        cases hab
        have z0 := hc i (by omega)
        rw [it_map cl ps (by omega)] at z0
        have HS := hid (lastL_more (cl := cl) (l := ps) (i := i) (by omega))
        obtain ⟨z, hz⟩ : ∃ z, cl (Pr.it ps i) = z := ⟨_, rfl⟩
        rw [hz] at z0 HS
        clear hc hz
        by_cases h4 : z = 4
        · have HQ2 := hid (show i + 1 = lastL cl (i + 1) ps by rw [HS.out, if_pos h4])
          subst h4
          clear HS HQ
          go_wp2_with fail
          go_roundg (S0 - (i + 1))
          case measure => omega
          case rel => exact ⟨i + 1, i + 1, rfl, by go_num, by go_num, by omega, by omega, HQ2, rfl⟩
        · have HQ2 := hid (show q = lastL cl (i + 1) ps by rw [HS.out, if_neg h4]; exact HQ.out)
          have h4' : (z == 4) = false := by simpa using h4
          clear HS HQ
          go_wp2_with fail
          go_roundg (S0 - (i + 1))
          case measure => omega
          case rel => exact ⟨i + 1, q, rfl, by go_num, rfl, by omega, by omega, HQ2, rfl⟩
      · have i1 : ¬ (i : Int) < S0 := by omega
        have HQ2 := hid (show lastL cl S0 ps = q by rw [HQ.out]; congr 1; omega)
        clear HQ
        rw [HQ2.out] at HP
        by_cases g6 : 0 < q
        · have t6 : (0 : Int) < q := by omega
          have e7 : IntKind.i64.wrap ((S0 : Int) + 1) = ((S0 + 1 : Nat) : Int) := by rw [i64_in (by omega) (by omega)]; omega
          obtain ⟨X, hX⟩ : ∃ X : Int, X = ((q : Nat) : Int) := ⟨_, rfl⟩
          obtain ⟨Y, hY⟩ : ∃ Y : Int, Y = ((S0 + 1 : Nat) : Int) := ⟨_, rfl⟩
          have HF := hid (show av (wide cl ps) = .agg #[.int .i64 X, .int .i64 Y] by rw [HP.out, if_pos g6, hX, hY]; rfl)
          rw [← hY] at e7
          rw [← hX] at t6
          have hX' : ((q : Nat) : Int) = X := hX.symm
          clear HP
          rw [hX']
          clear hX hY hX'
          have hr := R25.out
          obtain ⟨⟨s0, q0⟩, ⟨u1, v1⟩, r0, r1⟩ := two_e hr (.int .i64 X) (.int .i64 Y)
          have BB := hid (below_two B25.out (R := w.heap.size + 1) (by omega) (.int .i64 X) (.int .i64 Y))
          clear hr
          go_wp2_with fail
          refine bodyPost_ret (v := .agg #[.int .i64 X, .int .i64 Y]) (by simp [results, Tryd.results33, go_sem, r0, r1]) rfl ?_
          exact ⟨by rw [HF.out], BB.out⟩
        have t6 : ¬ (0 : Int) < q := by omega
        rw [if_neg g6] at HP
        obtain ⟨⟨x, y'⟩, hb⟩ : ∃ q, blanks cl ps = q := ⟨_, rfl⟩
        obtain ⟨X, hX⟩ : ∃ X : Int, X = (x : Int) := ⟨_, rfl⟩
        obtain ⟨Y, hY⟩ : ∃ Y : Int, Y = (y' : Int) := ⟨_, rfl⟩
        have HF := hid (show av (wide cl ps) = .agg #[.int .i64 X, .int .i64 Y] by rw [HP.out, hb, hX, hY]; rfl)
        have HM := hid (show av (blanks cl ps) = .agg #[.int .i64 X, .int .i64 Y] by rw [hb, hX, hY]; rfl)
        clear hX hY HP hb
        go_wp2_with fail
        refine (blanks_calls H25.out).mono ?_
        rintro e w26 ⟨rfl, b⟩
        rw [HM.out]
        have H26 := hid (H25.out.below b)
        have K26 := hid (K25.out.below b)
        have I26 := hid (I25.out.below b)
        have R26 := hid ((b.block _ (Array.getElem?_eq_some_iff.1 R25.out).1).trans R25.out)
        have B26 := hid (B25.out.trans (b.mono B25.out.size))
        have P26 := hid ((b.cell (p := ⟨bb, off, none⟩) (Nat.lt_of_lt_of_le hbl B25.out.size)).trans P25.out)
        clear b d0 d1 d2 d3 p0 H25 K25 R25 B25 P25 I25
        have d0 := K26.out.c0
        have d1 := K26.out.c1
        have d2 := K26.out.c2
        have d3 := K26.out.c3
        have p0 := P26.out
        have hr := R26.out
        obtain ⟨⟨s0, q0⟩, ⟨u1, v1⟩, r0, r1⟩ := two_e hr (.int .i64 X) (.int .i64 Y)
        have BB := hid (below_two B26.out (R := w.heap.size + 1) (by omega) (.int .i64 X) (.int .i64 Y))
        clear hr
        go_wp2_with fail
        refine bodyPost_ret (v := .agg #[.int .i64 X, .int .i64 Y]) (by simp [results, Tryd.results33, go_sem, r0, r1]) rfl ?_
        exact ⟨by rw [HF.out], BB.out⟩
  by_cases gy4 : y = 4
  · subst gy4
    rw [if_neg (fun e => e.1.2 rfl)] at HP
    go_wp2_with fail
    refine (lrow_calls H1.out 0 2 (by omega)).mono ?_
    rintro e w20 ⟨rfl, b⟩
    rw [List.drop_zero, EE.out.2.2.1]
    have H20 := hid (H1.out.below b)
    have K20 := hid (K1.out.below b)
    have I20 := hid (I1.out.below b)
    have R20 := hid ((b.block _ (Array.getElem?_eq_some_iff.1 R1.out).1).trans R1.out)
    have B20 := hid (B1.out.trans (b.mono B1.out.size))
    have P20 := hid ((b.cell (p := ⟨bb, off, none⟩) (Nat.lt_of_lt_of_le hbl B1.out.size)).trans P1.out)
    clear b d0 d1 d2 d3 p0 H1 K1 R1 B1 P1 I1
    have d0 := K20.out.c0
    have d1 := K20.out.c1
    have d2 := K20.out.c2
    have d3 := K20.out.c3
    have p0 := P20.out
    by_cases g3 : 3 ≤ N2
    · have t3 : (3 : Int) ≤ N2 := by omega
      obtain ⟨X, hX⟩ : ∃ X : Int, X = ((3 : Nat) : Int) := ⟨_, rfl⟩
      obtain ⟨Y, hY⟩ : ∃ Y : Int, Y = ((3 : Nat) : Int) := ⟨_, rfl⟩
      have HF := hid (show av (wide cl ps) = .agg #[.int .i64 X, .int .i64 Y] by rw [HP.out, if_pos g3, hX, hY]; rfl)
      rw [show X = 3 from hX, show Y = 3 from hY] at HF
      clear hX hY HP
      have hr := R20.out
      obtain ⟨⟨s0, q0⟩, ⟨u1, v1⟩, r0, r1⟩ := two_e hr (.int .i64 3) (.int .i64 3)
      have BB := hid (below_two B20.out (R := w.heap.size + 1) (by omega) (.int .i64 3) (.int .i64 3))
      clear hr
      go_wp2_with fail
      refine bodyPost_ret (v := .agg #[.int .i64 3, .int .i64 3]) (by simp [results, Tryd.results33, go_sem, r0, r1]) rfl ?_
      exact ⟨by rw [HF.out], BB.out⟩
    have t3 : ¬ (3 : Int) ≤ N2 := by omega
    rw [if_neg g3] at HP
    by_cases g4 : 0 < N2
    · have t4 : (0 : Int) < N2 := by omega
      obtain ⟨X, hX⟩ : ∃ X : Int, X = ((N2 : Nat) : Int) := ⟨_, rfl⟩
      obtain ⟨Y, hY⟩ : ∃ Y : Int, Y = ((N2 + 1 : Nat) : Int) := ⟨_, rfl⟩
      have HF := hid (show av (wide cl ps) = .agg #[.int .i64 X, .int .i64 Y] by rw [HP.out, if_pos g4, hX, hY]; rfl)
      have HM := hid (show av (more N2) = .agg #[.int .i64 X, .int .i64 Y] by rw [hX, hY]; rfl)
      clear hX hY HP
      go_wp2_with fail
      refine (more_calls N2 _ (by omega)).mono ?_
      rintro e w21 ⟨rfl, b⟩
      rw [HM.out]
      have H21 := hid (H20.out.below b)
      have K21 := hid (K20.out.below b)
      have I21 := hid (I20.out.below b)
      have R21 := hid ((b.block _ (Array.getElem?_eq_some_iff.1 R20.out).1).trans R20.out)
      have B21 := hid (B20.out.trans (b.mono B20.out.size))
      have P21 := hid ((b.cell (p := ⟨bb, off, none⟩) (Nat.lt_of_lt_of_le hbl B20.out.size)).trans P20.out)
      clear b d0 d1 d2 d3 p0 H20 K20 R20 B20 P20 I20
      have d0 := K21.out.c0
      have d1 := K21.out.c1
      have d2 := K21.out.c2
      have d3 := K21.out.c3
      have p0 := P21.out
      have hr := R21.out
      obtain ⟨⟨s0, q0⟩, ⟨u1, v1⟩, r0, r1⟩ := two_e hr (.int .i64 X) (.int .i64 Y)
      have BB := hid (below_two B21.out (R := w.heap.size + 1) (by omega) (.int .i64 X) (.int .i64 Y))
      clear hr
      go_wp2_with fail
      refine bodyPost_ret (v := .agg #[.int .i64 X, .int .i64 Y]) (by simp [results, Tryd.results33, go_sem, r0, r1]) rfl ?_
      exact ⟨by rw [HF.out], BB.out⟩
    have t4 : ¬ (0 : Int) < N2 := by omega
    rw [if_neg g4] at HP
    go_wp2_with fail
    refine (led_calls H20.out 0 h0).mono ?_
    rintro e w22 ⟨rfl, b⟩
    rw [EE.out.2.2.2.1]
    have H22 := hid (H20.out.below b)
    have K22 := hid (K20.out.below b)
    have I22 := hid (I20.out.below b)
    have R22 := hid ((b.block _ (Array.getElem?_eq_some_iff.1 R20.out).1).trans R20.out)
    have B22 := hid (B20.out.trans (b.mono B20.out.size))
    have P22 := hid ((b.cell (p := ⟨bb, off, none⟩) (Nat.lt_of_lt_of_le hbl B20.out.size)).trans P20.out)
    clear b d0 d1 d2 d3 p0 H20 K20 R20 B20 P20 I20
    have d0 := K22.out.c0
    have d1 := K22.out.c1
    have d2 := K22.out.c2
    have d3 := K22.out.c3
    have p0 := P22.out
    by_cases g5 : 0 < L0
    · have t5 : (0 : Int) < L0 := by omega
      go_wp2_with fail
      refine (lrow_calls H22.out L0 4 (by omega)).mono ?_
      rintro e w23 ⟨rfl, b⟩
      rw [EE.out.2.2.2.2.2]
      have H23 := hid (H22.out.below b)
      have K23 := hid (K22.out.below b)
      have I23 := hid (I22.out.below b)
      have R23 := hid ((b.block _ (Array.getElem?_eq_some_iff.1 R22.out).1).trans R22.out)
      have B23 := hid (B22.out.trans (b.mono B22.out.size))
      have P23 := hid ((b.cell (p := ⟨bb, off, none⟩) (Nat.lt_of_lt_of_le hbl B22.out.size)).trans P22.out)
      clear b d0 d1 d2 d3 p0 H22 K22 R22 B22 P22 I22
      have d0 := K23.out.c0
      have d1 := K23.out.c1
      have d2 := K23.out.c2
      have d3 := K23.out.c3
      have p0 := P23.out
      have e9 : IntKind.i64.wrap ((L0 : Int) + R4) = ((L0 + R4 : Nat) : Int) := by rw [i64_in (by omega) (by omega)]; omega
      obtain ⟨X, hX⟩ : ∃ X : Int, X = ((L0 + R4 : Nat) : Int) := ⟨_, rfl⟩
      obtain ⟨Y, hY⟩ : ∃ Y : Int, Y = ((L0 + R4 + 1 : Nat) : Int) := ⟨_, rfl⟩
      have HF := hid (show av (wide cl ps) = .agg #[.int .i64 X, .int .i64 Y] by rw [HP.out, if_pos g5, hX, hY]; rfl)
      obtain ⟨NN, hNN⟩ : ∃ NN : Nat, NN = L0 + R4 := ⟨_, rfl⟩
      rw [← hNN] at hX hY e9
      have nn1 : NN ≤ 1000000 := by omega
      clear hNN
      have HM := hid (show av (more NN) = .agg #[.int .i64 X, .int .i64 Y] by rw [hX, hY]; rfl)
      clear hX hY HP
      go_wp2_with fail
      refine (more_calls NN _ nn1).mono ?_
      rintro e w24 ⟨rfl, b⟩
      rw [HM.out]
      have H24 := hid (H23.out.below b)
      have K24 := hid (K23.out.below b)
      have I24 := hid (I23.out.below b)
      have R24 := hid ((b.block _ (Array.getElem?_eq_some_iff.1 R23.out).1).trans R23.out)
      have B24 := hid (B23.out.trans (b.mono B23.out.size))
      have P24 := hid ((b.cell (p := ⟨bb, off, none⟩) (Nat.lt_of_lt_of_le hbl B23.out.size)).trans P23.out)
      clear b d0 d1 d2 d3 p0 H23 K23 R23 B23 P23 I23
      have d0 := K24.out.c0
      have d1 := K24.out.c1
      have d2 := K24.out.c2
      have d3 := K24.out.c3
      have p0 := P24.out
      have hr := R24.out
      obtain ⟨⟨s0, q0⟩, ⟨u1, v1⟩, r0, r1⟩ := two_e hr (.int .i64 X) (.int .i64 Y)
      have BB := hid (below_two B24.out (R := w.heap.size + 1) (by omega) (.int .i64 X) (.int .i64 Y))
      clear hr
      go_wp2_with fail
      refine bodyPost_ret (v := .agg #[.int .i64 X, .int .i64 Y]) (by simp [results, Tryd.results33, go_sem, r0, r1]) rfl ?_
      exact ⟨by rw [HF.out], BB.out⟩
    have t5 : ¬ (0 : Int) < L0 := by omega
    rw [if_neg g5] at HP
    go_wp2_with fail
    refine (spaces_calls H22.out 0 (by omega)).mono ?_
    rintro e w25 ⟨rfl, b⟩
    rw [List.drop_zero, EE.out.2.2.2.2.1]
    have H25 := hid (H22.out.below b)
    have K25 := hid (K22.out.below b)
    have I25 := hid (I22.out.below b)
    have R25 := hid ((b.block _ (Array.getElem?_eq_some_iff.1 R22.out).1).trans R22.out)
    have B25 := hid (B22.out.trans (b.mono B22.out.size))
    have P25 := hid ((b.cell (p := ⟨bb, off, none⟩) (Nat.lt_of_lt_of_le hbl B22.out.size)).trans P22.out)
    clear b d0 d1 d2 d3 p0 H22 K22 R22 B22 P22 I22
    have d0 := K25.out.c0
    have d1 := K25.out.c1
    have d2 := K25.out.c2
    have d3 := K25.out.c3
    have p0 := P25.out
    go_wp2_with fail
    go_loopg [5, 6] S0 (fun r lv iv wr => ∃ (i q : Nat), r = S0 - i ∧ iv = .int .i64 (i : Int) ∧ lv = .int .i64 (q : Int) ∧ i ≤ S0 ∧ q ≤ S0 ∧ Hid (q = lastL cl i ps) ∧ wr = w25)
    case atStart => exact ⟨0, 0, rfl, rfl, rfl, by omega, by omega, hid (by unfold lastL; rfl), rfl⟩
    case round =>
      obtain ⟨i, q, rfl, rfl, rfl, hi, hq, HQ, rfl⟩ := hrel
      have i0 : (0 : Int) ≤ i := by omega
      have e1 : IntKind.i64.wrap ((i : Int) + 1) = i + 1 := i64_in (by omega) (by omega)
      by_cases hlt : i < S0
      · have i1 : (i : Int) < S0 := by omega
        have i2 : (i : Int) < n2 := by omega
        obtain ⟨b', off', hab, _, hc⟩ := I25.out.at' (by omega)
        cases hab
        have z0 := hc i (by omega)
        rw [it_map cl ps (by omega)] at z0
        have HS := hid (lastL_more (cl := cl) (l := ps) (i := i) (by omega))
        obtain ⟨z, hz⟩ : ∃ z, cl (Pr.it ps i) = z := ⟨_, rfl⟩
        rw [hz] at z0 HS
        clear hc hz
        by_cases h4 : z = 4
        · have HQ2 := hid (show i + 1 = lastL cl (i + 1) ps by rw [HS.out, if_pos h4])
          subst h4
          clear HS HQ
          go_wp2_with fail
          go_roundg (S0 - (i + 1))
          case measure => omega
          case rel => exact ⟨i + 1, i + 1, rfl, by go_num, by go_num, by omega, by omega, HQ2, rfl⟩
        · have HQ2 := hid (show q = lastL cl (i + 1) ps by rw [HS.out, if_neg h4]; exact HQ.out)
          have h4' : (z == 4) = false := by simpa using h4
          clear HS HQ
          go_wp2_with fail
          go_roundg (S0 - (i + 1))
          case measure => omega
          case rel => exact ⟨i + 1, q, rfl, by go_num, rfl, by omega, by omega, HQ2, rfl⟩
      · have i1 : ¬ (i : Int) < S0 := by omega
        have HQ2 := hid (show lastL cl S0 ps = q by rw [HQ.out]; congr 1; omega)
        clear HQ
        rw [HQ2.out] at HP
        by_cases g6 : 0 < q
        · have t6 : (0 : Int) < q := by omega
          have e7 : IntKind.i64.wrap ((S0 : Int) + 1) = ((S0 + 1 : Nat) : Int) := by rw [i64_in (by omega) (by omega)]; omega
          obtain ⟨X, hX⟩ : ∃ X : Int, X = ((q : Nat) : Int) := ⟨_, rfl⟩
          obtain ⟨Y, hY⟩ : ∃ Y : Int, Y = ((S0 + 1 : Nat) : Int) := ⟨_, rfl⟩
          have HF := hid (show av (wide cl ps) = .agg #[.int .i64 X, .int .i64 Y] by rw [HP.out, if_pos g6, hX, hY]; rfl)
          rw [← hY] at e7
          rw [← hX] at t6
          have hX' : ((q : Nat) : Int) = X := hX.symm
          clear HP
          rw [hX']
          clear hX hY hX'
          have hr := R25.out
          obtain ⟨⟨s0, q0⟩, ⟨u1, v1⟩, r0, r1⟩ := two_e hr (.int .i64 X) (.int .i64 Y)
          have BB := hid (below_two B25.out (R := w.heap.size + 1) (by omega) (.int .i64 X) (.int .i64 Y))
          clear hr
          go_wp2_with fail
          refine bodyPost_ret (v := .agg #[.int .i64 X, .int .i64 Y]) (by simp [results, Tryd.results33, go_sem, r0, r1]) rfl ?_
          exact ⟨by rw [HF.out], BB.out⟩
        have t6 : ¬ (0 : Int) < q := by omega
        rw [if_neg g6] at HP
        obtain ⟨⟨x, y'⟩, hb⟩ : ∃ q, blanks cl ps = q := ⟨_, rfl⟩
        obtain ⟨X, hX⟩ : ∃ X : Int, X = (x : Int) := ⟨_, rfl⟩
        obtain ⟨Y, hY⟩ : ∃ Y : Int, Y = (y' : Int) := ⟨_, rfl⟩
        have HF := hid (show av (wide cl ps) = .agg #[.int .i64 X, .int .i64 Y] by rw [HP.out, hb, hX, hY]; rfl)
        have HM := hid (show av (blanks cl ps) = .agg #[.int .i64 X, .int .i64 Y] by rw [hb, hX, hY]; rfl)
        clear hX hY HP hb
        go_wp2_with fail
        refine (blanks_calls H25.out).mono ?_
        rintro e w26 ⟨rfl, b⟩
        rw [HM.out]
        have H26 := hid (H25.out.below b)
        have K26 := hid (K25.out.below b)
        have I26 := hid (I25.out.below b)
        have R26 := hid ((b.block _ (Array.getElem?_eq_some_iff.1 R25.out).1).trans R25.out)
        have B26 := hid (B25.out.trans (b.mono B25.out.size))
        have P26 := hid ((b.cell (p := ⟨bb, off, none⟩) (Nat.lt_of_lt_of_le hbl B25.out.size)).trans P25.out)
        clear b d0 d1 d2 d3 p0 H25 K25 R25 B25 P25 I25
        have d0 := K26.out.c0
        have d1 := K26.out.c1
        have d2 := K26.out.c2
        have d3 := K26.out.c3
        have p0 := P26.out
        have hr := R26.out
        obtain ⟨⟨s0, q0⟩, ⟨u1, v1⟩, r0, r1⟩ := two_e hr (.int .i64 X) (.int .i64 Y)
        have BB := hid (below_two B26.out (R := w.heap.size + 1) (by omega) (.int .i64 X) (.int .i64 Y))
        clear hr
        go_wp2_with fail
        refine bodyPost_ret (v := .agg #[.int .i64 X, .int .i64 Y]) (by simp [results, Tryd.results33, go_sem, r0, r1]) rfl ?_
        exact ⟨by rw [HF.out], BB.out⟩
  have y2 : (y != 2) = true := by simpa [bne] using gy2
  have y4 : (y != 4) = true := by simpa [bne] using gy4
  go_wp2_with fail
  refine (lrow_calls H1.out 1 1 (by omega)).mono ?_
  rintro e w2 ⟨rfl, b⟩
  rw [EE.out.2.1.2]
  have H2 := hid (H1.out.below b)
  have K2 := hid (K1.out.below b)
  have I2 := hid (I1.out.below b)
  have R2 := hid ((b.block _ (Array.getElem?_eq_some_iff.1 R1.out).1).trans R1.out)
  have B2 := hid (B1.out.trans (b.mono B1.out.size))
  have P2 := hid ((b.cell (p := ⟨bb, off, none⟩) (Nat.lt_of_lt_of_le hbl B1.out.size)).trans P1.out)
  clear b d0 d1 d2 d3 p0 H1 K1 R1 B1 P1 I1
  have d0 := K2.out.c0
  have d1 := K2.out.c1
  have d2 := K2.out.c2
  have d3 := K2.out.c3
  have p0 := P2.out
  by_cases gd : 0 < D1
  · have td : (0 : Int) < D1 := by omega
    rw [if_pos ⟨⟨gy2, gy4⟩, gd⟩] at HP
    go_wp2_with fail
    refine (lrow_calls H2.out 1 1 (by omega)).mono ?_
    rintro e w3 ⟨rfl, b⟩
    rw [EE.out.2.1.2]
    have H3 := hid (H2.out.below b)
    have K3 := hid (K2.out.below b)
    have I3 := hid (I2.out.below b)
    have R3 := hid ((b.block _ (Array.getElem?_eq_some_iff.1 R2.out).1).trans R2.out)
    have B3 := hid (B2.out.trans (b.mono B2.out.size))
    have P3 := hid ((b.cell (p := ⟨bb, off, none⟩) (Nat.lt_of_lt_of_le hbl B2.out.size)).trans P2.out)
    clear b d0 d1 d2 d3 p0 H2 K2 R2 B2 P2 I2
    have d0 := K3.out.c0
    have d1 := K3.out.c1
    have d2 := K3.out.c2
    have d3 := K3.out.c3
    have p0 := P3.out
    have e9 : IntKind.i64.wrap (1 + (D1 : Int)) = ((1 + D1 : Nat) : Int) := by rw [i64_in (by omega) (by omega)]; omega
    obtain ⟨X, hX⟩ : ∃ X : Int, X = ((1 + D1 : Nat) : Int) := ⟨_, rfl⟩
    obtain ⟨Y, hY⟩ : ∃ Y : Int, Y = ((1 + D1 + 1 : Nat) : Int) := ⟨_, rfl⟩
    have HF := hid (show av (wide cl ps) = .agg #[.int .i64 X, .int .i64 Y] by rw [HP.out, hX, hY]; rfl)
    obtain ⟨NN, hNN⟩ : ∃ NN : Nat, NN = 1 + D1 := ⟨_, rfl⟩
    rw [← hNN] at hX hY e9
    have nn1 : NN ≤ 1000000 := by omega
    clear hNN
    have HM := hid (show av (more NN) = .agg #[.int .i64 X, .int .i64 Y] by rw [hX, hY]; rfl)
    clear hX hY HP
    go_wp2_with fail
    refine (more_calls NN _ nn1).mono ?_
    rintro e w4 ⟨rfl, b⟩
    rw [HM.out]
    have H4 := hid (H3.out.below b)
    have K4 := hid (K3.out.below b)
    have I4 := hid (I3.out.below b)
    have R4 := hid ((b.block _ (Array.getElem?_eq_some_iff.1 R3.out).1).trans R3.out)
    have B4 := hid (B3.out.trans (b.mono B3.out.size))
    have P4 := hid ((b.cell (p := ⟨bb, off, none⟩) (Nat.lt_of_lt_of_le hbl B3.out.size)).trans P3.out)
    clear b d0 d1 d2 d3 p0 H3 K3 R3 B3 P3 I3
    have d0 := K4.out.c0
    have d1 := K4.out.c1
    have d2 := K4.out.c2
    have d3 := K4.out.c3
    have p0 := P4.out
    have hr := R4.out
    obtain ⟨⟨s0, q0⟩, ⟨u1, v1⟩, r0, r1⟩ := two_e hr (.int .i64 X) (.int .i64 Y)
    have BB := hid (below_two B4.out (R := w.heap.size + 1) (by omega) (.int .i64 X) (.int .i64 Y))
    clear hr
    go_wp2_with fail
    refine bodyPost_ret (v := .agg #[.int .i64 X, .int .i64 Y]) (by simp [results, Tryd.results33, go_sem, r0, r1]) rfl ?_
    exact ⟨by rw [HF.out], BB.out⟩
  have td : ¬ (0 : Int) < D1 := by omega
  rw [if_neg (fun e => gd e.2)] at HP
  go_wp2_with fail
  refine (lrow_calls H2.out 0 2 (by omega)).mono ?_
  rintro e w20 ⟨rfl, b⟩
  rw [List.drop_zero, EE.out.2.2.1]
  have H20 := hid (H2.out.below b)
  have K20 := hid (K2.out.below b)
  have I20 := hid (I2.out.below b)
  have R20 := hid ((b.block _ (Array.getElem?_eq_some_iff.1 R2.out).1).trans R2.out)
  have B20 := hid (B2.out.trans (b.mono B2.out.size))
  have P20 := hid ((b.cell (p := ⟨bb, off, none⟩) (Nat.lt_of_lt_of_le hbl B2.out.size)).trans P2.out)
  clear b d0 d1 d2 d3 p0 H2 K2 R2 B2 P2 I2
  have d0 := K20.out.c0
  have d1 := K20.out.c1
  have d2 := K20.out.c2
  have d3 := K20.out.c3
  have p0 := P20.out
  by_cases g3 : 3 ≤ N2
  · have t3 : (3 : Int) ≤ N2 := by omega
    obtain ⟨X, hX⟩ : ∃ X : Int, X = ((3 : Nat) : Int) := ⟨_, rfl⟩
    obtain ⟨Y, hY⟩ : ∃ Y : Int, Y = ((3 : Nat) : Int) := ⟨_, rfl⟩
    have HF := hid (show av (wide cl ps) = .agg #[.int .i64 X, .int .i64 Y] by rw [HP.out, if_pos g3, hX, hY]; rfl)
    rw [show X = 3 from hX, show Y = 3 from hY] at HF
    clear hX hY HP
    have hr := R20.out
    obtain ⟨⟨s0, q0⟩, ⟨u1, v1⟩, r0, r1⟩ := two_e hr (.int .i64 3) (.int .i64 3)
    have BB := hid (below_two B20.out (R := w.heap.size + 1) (by omega) (.int .i64 3) (.int .i64 3))
    clear hr
    go_wp2_with fail
    refine bodyPost_ret (v := .agg #[.int .i64 3, .int .i64 3]) (by simp [results, Tryd.results33, go_sem, r0, r1]) rfl ?_
    exact ⟨by rw [HF.out], BB.out⟩
  have t3 : ¬ (3 : Int) ≤ N2 := by omega
  rw [if_neg g3] at HP
  by_cases g4 : 0 < N2
  · have t4 : (0 : Int) < N2 := by omega
    obtain ⟨X, hX⟩ : ∃ X : Int, X = ((N2 : Nat) : Int) := ⟨_, rfl⟩
    obtain ⟨Y, hY⟩ : ∃ Y : Int, Y = ((N2 + 1 : Nat) : Int) := ⟨_, rfl⟩
    have HF := hid (show av (wide cl ps) = .agg #[.int .i64 X, .int .i64 Y] by rw [HP.out, if_pos g4, hX, hY]; rfl)
    have HM := hid (show av (more N2) = .agg #[.int .i64 X, .int .i64 Y] by rw [hX, hY]; rfl)
    clear hX hY HP
    go_wp2_with fail
    refine (more_calls N2 _ (by omega)).mono ?_
    rintro e w21 ⟨rfl, b⟩
    rw [HM.out]
    have H21 := hid (H20.out.below b)
    have K21 := hid (K20.out.below b)
    have I21 := hid (I20.out.below b)
    have R21 := hid ((b.block _ (Array.getElem?_eq_some_iff.1 R20.out).1).trans R20.out)
    have B21 := hid (B20.out.trans (b.mono B20.out.size))
    have P21 := hid ((b.cell (p := ⟨bb, off, none⟩) (Nat.lt_of_lt_of_le hbl B20.out.size)).trans P20.out)
    clear b d0 d1 d2 d3 p0 H20 K20 R20 B20 P20 I20
    have d0 := K21.out.c0
    have d1 := K21.out.c1
    have d2 := K21.out.c2
    have d3 := K21.out.c3
    have p0 := P21.out
    have hr := R21.out
    obtain ⟨⟨s0, q0⟩, ⟨u1, v1⟩, r0, r1⟩ := two_e hr (.int .i64 X) (.int .i64 Y)
    have BB := hid (below_two B21.out (R := w.heap.size + 1) (by omega) (.int .i64 X) (.int .i64 Y))
    clear hr
    go_wp2_with fail
    refine bodyPost_ret (v := .agg #[.int .i64 X, .int .i64 Y]) (by simp [results, Tryd.results33, go_sem, r0, r1]) rfl ?_
    exact ⟨by rw [HF.out], BB.out⟩
  have t4 : ¬ (0 : Int) < N2 := by omega
  rw [if_neg g4] at HP
  go_wp2_with fail
  refine (led_calls H20.out 0 h0).mono ?_
  rintro e w22 ⟨rfl, b⟩
  rw [EE.out.2.2.2.1]
  have H22 := hid (H20.out.below b)
  have K22 := hid (K20.out.below b)
  have I22 := hid (I20.out.below b)
  have R22 := hid ((b.block _ (Array.getElem?_eq_some_iff.1 R20.out).1).trans R20.out)
  have B22 := hid (B20.out.trans (b.mono B20.out.size))
  have P22 := hid ((b.cell (p := ⟨bb, off, none⟩) (Nat.lt_of_lt_of_le hbl B20.out.size)).trans P20.out)
  clear b d0 d1 d2 d3 p0 H20 K20 R20 B20 P20 I20
  have d0 := K22.out.c0
  have d1 := K22.out.c1
  have d2 := K22.out.c2
  have d3 := K22.out.c3
  have p0 := P22.out
  by_cases g5 : 0 < L0
  · have t5 : (0 : Int) < L0 := by omega
    go_wp2_with fail
    refine (lrow_calls H22.out L0 4 (by omega)).mono ?_
    rintro e w23 ⟨rfl, b⟩
    rw [EE.out.2.2.2.2.2]
    have H23 := hid (H22.out.below b)
    have K23 := hid (K22.out.below b)
    have I23 := hid (I22.out.below b)
    have R23 := hid ((b.block _ (Array.getElem?_eq_some_iff.1 R22.out).1).trans R22.out)
    have B23 := hid (B22.out.trans (b.mono B22.out.size))
    have P23 := hid ((b.cell (p := ⟨bb, off, none⟩) (Nat.lt_of_lt_of_le hbl B22.out.size)).trans P22.out)
    clear b d0 d1 d2 d3 p0 H22 K22 R22 B22 P22 I22
    have d0 := K23.out.c0
    have d1 := K23.out.c1
    have d2 := K23.out.c2
    have d3 := K23.out.c3
    have p0 := P23.out
    have e9 : IntKind.i64.wrap ((L0 : Int) + R4) = ((L0 + R4 : Nat) : Int) := by rw [i64_in (by omega) (by omega)]; omega
    obtain ⟨X, hX⟩ : ∃ X : Int, X = ((L0 + R4 : Nat) : Int) := ⟨_, rfl⟩
    obtain ⟨Y, hY⟩ : ∃ Y : Int, Y = ((L0 + R4 + 1 : Nat) : Int) := ⟨_, rfl⟩
    have HF := hid (show av (wide cl ps) = .agg #[.int .i64 X, .int .i64 Y] by rw [HP.out, if_pos g5, hX, hY]; rfl)
    obtain ⟨NN, hNN⟩ : ∃ NN : Nat, NN = L0 + R4 := ⟨_, rfl⟩
    rw [← hNN] at hX hY e9
    have nn1 : NN ≤ 1000000 := by omega
    clear hNN
    have HM := hid (show av (more NN) = .agg #[.int .i64 X, .int .i64 Y] by rw [hX, hY]; rfl)
    clear hX hY HP
    go_wp2_with fail
    refine (more_calls NN _ nn1).mono ?_
    rintro e w24 ⟨rfl, b⟩
    rw [HM.out]
    have H24 := hid (H23.out.below b)
    have K24 := hid (K23.out.below b)
    have I24 := hid (I23.out.below b)
    have R24 := hid ((b.block _ (Array.getElem?_eq_some_iff.1 R23.out).1).trans R23.out)
    have B24 := hid (B23.out.trans (b.mono B23.out.size))
    have P24 := hid ((b.cell (p := ⟨bb, off, none⟩) (Nat.lt_of_lt_of_le hbl B23.out.size)).trans P23.out)
    clear b d0 d1 d2 d3 p0 H23 K23 R23 B23 P23 I23
    have d0 := K24.out.c0
    have d1 := K24.out.c1
    have d2 := K24.out.c2
    have d3 := K24.out.c3
    have p0 := P24.out
    have hr := R24.out
    obtain ⟨⟨s0, q0⟩, ⟨u1, v1⟩, r0, r1⟩ := two_e hr (.int .i64 X) (.int .i64 Y)
    have BB := hid (below_two B24.out (R := w.heap.size + 1) (by omega) (.int .i64 X) (.int .i64 Y))
    clear hr
    go_wp2_with fail
    refine bodyPost_ret (v := .agg #[.int .i64 X, .int .i64 Y]) (by simp [results, Tryd.results33, go_sem, r0, r1]) rfl ?_
    exact ⟨by rw [HF.out], BB.out⟩
  have t5 : ¬ (0 : Int) < L0 := by omega
  rw [if_neg g5] at HP
  go_wp2_with fail
  refine (spaces_calls H22.out 0 (by omega)).mono ?_
  rintro e w25 ⟨rfl, b⟩
  rw [List.drop_zero, EE.out.2.2.2.2.1]
  have H25 := hid (H22.out.below b)
  have K25 := hid (K22.out.below b)
  have I25 := hid (I22.out.below b)
  have R25 := hid ((b.block _ (Array.getElem?_eq_some_iff.1 R22.out).1).trans R22.out)
  have B25 := hid (B22.out.trans (b.mono B22.out.size))
  have P25 := hid ((b.cell (p := ⟨bb, off, none⟩) (Nat.lt_of_lt_of_le hbl B22.out.size)).trans P22.out)
  clear b d0 d1 d2 d3 p0 H22 K22 R22 B22 P22 I22
  have d0 := K25.out.c0
  have d1 := K25.out.c1
  have d2 := K25.out.c2
  have d3 := K25.out.c3
  have p0 := P25.out
  go_wp2_with fail
  go_loopg [5, 6] S0 (fun r lv iv wr => ∃ (i q : Nat), r = S0 - i ∧ iv = .int .i64 (i : Int) ∧ lv = .int .i64 (q : Int) ∧ i ≤ S0 ∧ q ≤ S0 ∧ Hid (q = lastL cl i ps) ∧ wr = w25)
  case atStart => exact ⟨0, 0, rfl, rfl, rfl, by omega, by omega, hid (by unfold lastL; rfl), rfl⟩
  case round =>
    obtain ⟨i, q, rfl, rfl, rfl, hi, hq, HQ, rfl⟩ := hrel
    have i0 : (0 : Int) ≤ i := by omega
    have e1 : IntKind.i64.wrap ((i : Int) + 1) = i + 1 := i64_in (by omega) (by omega)
    by_cases hlt : i < S0
    · have i1 : (i : Int) < S0 := by omega
      have i2 : (i : Int) < n2 := by omega
      obtain ⟨b', off', hab, _, hc⟩ := I25.out.at' (by omega)
      cases hab
      have z0 := hc i (by omega)
      rw [it_map cl ps (by omega)] at z0
      have HS := hid (lastL_more (cl := cl) (l := ps) (i := i) (by omega))
      obtain ⟨z, hz⟩ : ∃ z, cl (Pr.it ps i) = z := ⟨_, rfl⟩
      rw [hz] at z0 HS
      clear hc hz
      by_cases h4 : z = 4
      · have HQ2 := hid (show i + 1 = lastL cl (i + 1) ps by rw [HS.out, if_pos h4])
        subst h4
        clear HS HQ
        go_wp2_with fail
        go_roundg (S0 - (i + 1))
        case measure => omega
        case rel => exact ⟨i + 1, i + 1, rfl, by go_num, by go_num, by omega, by omega, HQ2, rfl⟩
      · have HQ2 := hid (show q = lastL cl (i + 1) ps by rw [HS.out, if_neg h4]; exact HQ.out)
        have h4' : (z == 4) = false := by simpa using h4
        clear HS HQ
        go_wp2_with fail
        go_roundg (S0 - (i + 1))
        case measure => omega
        case rel => exact ⟨i + 1, q, rfl, by go_num, rfl, by omega, by omega, HQ2, rfl⟩
    · have i1 : ¬ (i : Int) < S0 := by omega
      have HQ2 := hid (show lastL cl S0 ps = q by rw [HQ.out]; congr 1; omega)
      clear HQ
      rw [HQ2.out] at HP
      by_cases g6 : 0 < q
      · have t6 : (0 : Int) < q := by omega
        have e7 : IntKind.i64.wrap ((S0 : Int) + 1) = ((S0 + 1 : Nat) : Int) := by rw [i64_in (by omega) (by omega)]; omega
        obtain ⟨X, hX⟩ : ∃ X : Int, X = ((q : Nat) : Int) := ⟨_, rfl⟩
        obtain ⟨Y, hY⟩ : ∃ Y : Int, Y = ((S0 + 1 : Nat) : Int) := ⟨_, rfl⟩
        have HF := hid (show av (wide cl ps) = .agg #[.int .i64 X, .int .i64 Y] by rw [HP.out, if_pos g6, hX, hY]; rfl)
        rw [← hY] at e7
        rw [← hX] at t6
        have hX' : ((q : Nat) : Int) = X := hX.symm
        clear HP
        rw [hX']
        clear hX hY hX'
        have hr := R25.out
        obtain ⟨⟨s0, q0⟩, ⟨u1, v1⟩, r0, r1⟩ := two_e hr (.int .i64 X) (.int .i64 Y)
        have BB := hid (below_two B25.out (R := w.heap.size + 1) (by omega) (.int .i64 X) (.int .i64 Y))
        clear hr
        go_wp2_with fail
        refine bodyPost_ret (v := .agg #[.int .i64 X, .int .i64 Y]) (by simp [results, Tryd.results33, go_sem, r0, r1]) rfl ?_
        exact ⟨by rw [HF.out], BB.out⟩
      have t6 : ¬ (0 : Int) < q := by omega
      rw [if_neg g6] at HP
      obtain ⟨⟨x, y'⟩, hb⟩ : ∃ q, blanks cl ps = q := ⟨_, rfl⟩
      obtain ⟨X, hX⟩ : ∃ X : Int, X = (x : Int) := ⟨_, rfl⟩
      obtain ⟨Y, hY⟩ : ∃ Y : Int, Y = (y' : Int) := ⟨_, rfl⟩
      have HF := hid (show av (wide cl ps) = .agg #[.int .i64 X, .int .i64 Y] by rw [HP.out, hb, hX, hY]; rfl)
      have HM := hid (show av (blanks cl ps) = .agg #[.int .i64 X, .int .i64 Y] by rw [hb, hX, hY]; rfl)
      clear hX hY HP hb
      go_wp2_with fail
      refine (blanks_calls H25.out).mono ?_
      rintro e w26 ⟨rfl, b⟩
      rw [HM.out]
      have H26 := hid (H25.out.below b)
      have K26 := hid (K25.out.below b)
      have I26 := hid (I25.out.below b)
      have R26 := hid ((b.block _ (Array.getElem?_eq_some_iff.1 R25.out).1).trans R25.out)
      have B26 := hid (B25.out.trans (b.mono B25.out.size))
      have P26 := hid ((b.cell (p := ⟨bb, off, none⟩) (Nat.lt_of_lt_of_le hbl B25.out.size)).trans P25.out)
      clear b d0 d1 d2 d3 p0 H25 K25 R25 B25 P25 I25
      have d0 := K26.out.c0
      have d1 := K26.out.c1
      have d2 := K26.out.c2
      have d3 := K26.out.c3
      have p0 := P26.out
      have hr := R26.out
      obtain ⟨⟨s0, q0⟩, ⟨u1, v1⟩, r0, r1⟩ := two_e hr (.int .i64 X) (.int .i64 Y)
      have BB := hid (below_two B26.out (R := w.heap.size + 1) (by omega) (.int .i64 X) (.int .i64 Y))
      clear hr
      go_wp2_with fail
      refine bodyPost_ret (v := .agg #[.int .i64 X, .int .i64 Y]) (by simp [results, Tryd.results33, go_sem, r0, r1]) rfl ?_
      exact ⟨by rw [HF.out], BB.out⟩
end
end Go.Proofs.YtiheagkgpbkkfaaDoor

/-
  The reference's rows of points in memory: begun.
-/
namespace Go.Proofs.YtiheagkgpbkkfaaDoor
open Go.RowKit
open Sc
set_option linter.unusedVariables false
def bgS : Nat → ByteArray
  | 0 => ⟨#[39]⟩
  | 1 => ⟨#[39, 114]⟩
  | 2 => ⟨#[39, 118]⟩
  | _ => ⟨#[39, 108]⟩
def bgL : Nat → List Int
  | 0 => [39]
  | 1 => [39, 114]
  | 2 => [39, 118]
  | _ => [39, 108]
theorem bg_st (j : Nat) : St (bgS j) (bgL j).length (fun i => (bgL j).getD i 0) := by
  refine st_lit _ _ ?_ ?_
  · match j with
    | 0 => rfl
    | 1 => rfl
    | 2 => rfl
    | n + 3 => rfl
  · match j with
    | 0 => decide
    | 1 => decide
    | 2 => decide
    | n + 3 => exact (show ∀ x ∈ ([39, 108] : List Int), 0 ≤ x ∧ x ≤ 255 by decide)
theorem bg_len (j : Nat) : (bgL j).length ≤ 3 := by
  match j with
  | 0 => exact (by decide)
  | 1 => exact (by decide)
  | 2 => exact (by decide)
  | n + 3 => exact (show ([39, 108] : List Int).length ≤ 3 by decide)
theorem te_one {w : Bool} {ps : List Int} : TE w ps [39] ↔ ∃ r, ps = 39 :: r := by
  constructor
  · intro h
    have h0 := h 0 (by simp)
    match ps, h0 with
    | a :: r, h0 =>
      obtain rfl : a = 39 := mt_39.1 (by simpa [Pr.it] using h0.2)
      exact ⟨r, rfl⟩
    | [], h0 => simp at h0
  · rintro ⟨r, rfl⟩ j hj
    match j, hj with
    | 0, _ => exact ⟨by simp, mt_39.2 rfl⟩
    | j + 1, hj => exact absurd (show j + 1 < 1 from hj) (by omega)
theorem begun_yes {w : Bool} {ps : List Int} {sure j : Nat} (hj : j < 4) (hs : sure = (bgL j).length) (h : TE w ps (bgL j)) : Sc.begun w sure ps = true := by
  by_cases h0 : j = 0
  · subst h0
    obtain ⟨r, rfl⟩ := te_one.1 h
    have : sure = 1 := hs
    subst this
    simp [Sc.begun]
  · obtain ⟨x, hl, hx, hxx⟩ : ∃ x, bgL j = [39, x] ∧ 97 ≤ x ∧ (x = 114 ∨ x = 118 ∨ x = 108) := by
      match j, hj, h0 with
      | 1, _, _ => exact ⟨114, rfl, by decide, by decide⟩
      | 2, _, _ => exact ⟨118, rfl, by decide, by decide⟩
      | 3, _, _ => exact ⟨108, rfl, by decide, by decide⟩
      | n + 4, hj, _ => omega
    rw [hl] at h hs
    obtain ⟨b, r, rfl, hb⟩ := (te_two hx).1 h
    have : sure = 2 := hs
    subst this
    rcases hxx with rfl | rfl | rfl <;> simp [Sc.begun, two, hb]
theorem begun_no {w : Bool} {ps : List Int} {sure : Nat} (hno : ∀ i, i < 4 → ¬ (sure = (bgL i).length ∧ TE w ps (bgL i))) : Sc.begun w sure ps = false := by
  cases hb : Sc.begun w sure ps with
  | false => rfl
  | true =>
    exfalso
    obtain ⟨h39, h1 | ⟨h2, b, r, rfl, ht⟩⟩ := begun_le hb
    · cases ps with
      | nil => simp at h39
      | cons p l =>
        have : p = 39 := by simpa using h39
        subst this
        exact hno 0 (by omega) ⟨h1, te_one.2 ⟨l, rfl⟩⟩
    · unfold two at ht
      simp only [Bool.or_eq_true] at ht
      rcases ht with (ht | ht) | ht
      · exact hno 1 (by omega) ⟨h2, (te_two (by decide)).2 ⟨b, r, rfl, ht⟩⟩
      · exact hno 2 (by omega) ⟨h2, (te_two (by decide)).2 ⟨b, r, rfl, ht⟩⟩
      · exact hno 3 (by omega) ⟨h2, (te_two (by decide)).2 ⟨b, r, rfl, ht⟩⟩
section
variable {w : World} {v : Value} {cl : Int → Int} {ps : List Int} {ns : List Nat} {sure : Nat}
def bgCells : Array Value := #[.string ⟨#[39]⟩, .string ⟨#[39, 114]⟩, .string ⟨#[39, 118]⟩, .string ⟨#[39, 108]⟩]
theorem bg_cell {w : World} {B : Nat} {t : TypeId} (h : w.heap[B]? = some (.cells bgCells t (0, 0))) {j : Nat} (hj : j < 4) : w.cell? ⟨B, j, none⟩ = some (.string (bgS j)) := by
  simp only [World.cell?, h]
  match j, hj with
  | 0, _ => rfl
  | 1, _ => rfl
  | 2, _ => rfl
  | 3, _ => rfl
  | n + 4, hj => omega
set_option maxRecDepth 100000 in
set_option maxHeartbeats 6400000 in
theorem begun_calls (h : Lm w v cl ps ns sure) (wide : Bool) :
    Calls Tryd.prog 34 #[v, .bool wide] w fun e w' => e = .returned (.bool (Sc.begun wide sure ps)) ∧ Below w.heap.size w w' := by
  obtain ⟨a1, n1, c1, a2, n2, c2, a3, n3, c3, rfl, h1, h2, h3⟩ := h.ex
  have bx : Below w.heap.size w (w.alloc (.cells #[.slice a1 n1 c1, .slice a2 n2 c2, .slice a3 n3 c3, .int .i64 (sure : Int)] 61)) := (Below.refl w.heap.size w).alloc (Nat.le_refl _) _
  have hs : (w.alloc (.cells #[.slice a1 n1 c1, .slice a2 n2 c2, .slice a3 n3 c3, .int .i64 (sure : Int)] 61)).heap.size = w.heap.size + 1 := by simp
  have bz := (Below.refl (w.alloc (.cells #[.slice a1 n1 c1, .slice a2 n2 c2, .slice a3 n3 c3, .int .i64 (sure : Int)] 61)).heap.size (w.alloc (.cells #[.slice a1 n1 c1, .slice a2 n2 c2, .slice a3 n3 c3, .int .i64 (sure : Int)] 61))).alloc (Nat.le_refl _) (.cells bgCells 9)
  have B0 := hid (bx.trans (bz.mono bx.size))
  have K0 := hid ((show B4 (w.alloc (.cells #[.slice a1 n1 c1, .slice a2 n2 c2, .slice a3 n3 c3, .int .i64 (sure : Int)] 61)) w.heap.size (.slice a1 n1 c1) (.slice a2 n2 c2) (.slice a3 n3 c3) (.int .i64 (sure : Int)) from heap_alloc_new w _).below bz)
  have H0 := hid (h.below B0.out)
  have hr := heap_alloc_new (w.alloc (.cells #[.slice a1 n1 c1, .slice a2 n2 c2, .slice a3 n3 c3, .int .i64 (sure : Int)] 61)) (.cells bgCells 9)
  rw [hs] at hr
  have R0 := hid hr
  clear h h1 h2 h3 hr hs bx bz
  go_enter Tryd.func34, Tryd.ntmps34
  go_wp2_with fail
  obtain ⟨W2, hW2⟩ : ∃ W, (w.alloc (.cells #[.slice a1 n1 c1, .slice a2 n2 c2, .slice a3 n3 c3, .int .i64 (sure : Int)] 61)).alloc (.cells bgCells 9) = W := ⟨_, rfl⟩
  rw [hW2] at K0 H0 R0 B0
  have hW3 : (w.alloc (.cells #[.slice a1 n1 c1, .slice a2 n2 c2, .slice a3 n3 c3, .int .i64 (sure : Int)] 61)).alloc (.cells #[.string ⟨#[39]⟩, .string ⟨#[39, 114]⟩, .string ⟨#[39, 118]⟩, .string ⟨#[39, 108]⟩] 9) = W2 := hW2
  rw [hW3]
  clear hW2 hW3
  go_loopg [10] 4 (fun r kv wr => ∃ j : Nat, r = 4 - j ∧ kv = .int .i64 (j : Int) ∧ j ≤ 4 ∧ Hid (∀ i, i < j → ¬ (sure = (bgL i).length ∧ TE wide ps (bgL i))) ∧ Hid (Lm wr (.agg #[.slice a1 n1 c1, .slice a2 n2 c2, .slice a3 n3 c3, .int .i64 (sure : Int)]) cl ps ns sure) ∧ Hid (B4 wr w.heap.size (.slice a1 n1 c1) (.slice a2 n2 c2) (.slice a3 n3 c3) (.int .i64 (sure : Int))) ∧ Hid (wr.heap[w.heap.size + 1]? = some (.cells bgCells 9 (0, 0))) ∧ Hid (Below w.heap.size w wr))
  case atStart => exact ⟨0, rfl, rfl, by omega, hid (fun i hi => by omega), H0, K0, R0, B0⟩
  case round =>
    obtain ⟨j, rfl, rfl, hj, HT, HH, HK, HR, HB⟩ := hrel
    by_cases hlt : j < 4
    · have k1 : (j : Int) < 4 := by omega
      have k0 : (0 : Int) ≤ j := by omega
      have e2 : IntKind.i64.wrap ((j : Int) + 1) = j + 1 := i64_in (by omega) (by omega)
      have d0 := HK.out.c0
      have d1 := HK.out.c1
      have d2 := HK.out.c2
      have d3 := HK.out.c3
      have p0 := bg_cell HR.out hlt
      have HSt := hid (bg_st j)
      have hln := bg_len j
      obtain ⟨S, hS⟩ : ∃ S, bgS j = S := ⟨_, rfl⟩
      rw [hS] at p0 HSt
      have HSS := hid hS
      have HD := hid (show ∀ w' : World, Below wr.heap.size wr w' → w'.cell? ⟨w.heap.size, 0, none⟩ = some (.slice a1 n1 c1) ∧ w'.cell? ⟨w.heap.size, 1, none⟩ = some (.slice a2 n2 c2) ∧ w'.cell? ⟨w.heap.size, 2, none⟩ = some (.slice a3 n3 c3) ∧ w'.cell? ⟨w.heap.size, 3, none⟩ = some (.int .i64 (sure : Int)) ∧ w'.cell? ⟨w.heap.size + 1, j, none⟩ = some (.string S) from fun w' b => ⟨(HK.out.below b).c0, (HK.out.below b).c1, (HK.out.below b).c2, (HK.out.below b).c3, by rw [← HSS.out]; exact bg_cell ((b.block _ (Array.getElem?_eq_some_iff.1 HR.out).1).trans HR.out) hlt⟩)
      clear hS
      by_cases hsl : sure = (bgL j).length
      · have t0 : ((sure : Int) == (S.size : Int)) = true := by rw [HSt.out.size]; simp; omega
        obtain ⟨tt, htt⟩ : ∃ tt : Bool, (tt = true ↔ TE wide ps (bgL j)) := by
          by_cases h : TE wide ps (bgL j)
          · exact ⟨true, ⟨fun _ => h, fun _ => rfl⟩⟩
          · exact ⟨false, ⟨fun e => (by cases e), fun e => absurd e h⟩⟩
        have HTT := hid htt
        have HSL := hid hsl
        have cA : ∀ d os, Calls Tryd.prog 48 #[.agg #[.slice a1 n1 c1, .slice a2 n2 c2, .slice a3 n3 c3, .int .i64 (sure : Int)], .int .i64 0, .string S, .bool wide] (Sort.grow (redrawn wr d) os) fun e w'' => e = .returned (.bool tt) ∧ ∃ p : Regrown, w'' = Sort.grow (redrawn wr p.d) p.os := fun d os => Calls.regrown_of ((are_calls (HH.out.below (below_regrown _ d os)) HSt.out (by omega) wide).mono fun e w' ⟨⟨t, he, ht⟩, b⟩ => ⟨by
          rw [he]
          have : t = tt := by
            cases t <;> cases tt
            · rfl
            · exact absurd (ht.2 (htt.1 rfl)) (by decide)
            · exact absurd (htt.2 (ht.1 rfl)) (by decide)
            · rfl
          rw [this], b⟩)
        clear htt hsl
        cases tt with
        | false =>
          have HT2 := hid (show ∀ i, i < j + 1 → ¬ (sure = (bgL i).length ∧ TE wide ps (bgL i)) from fun i hi => by
            rcases Nat.lt_succ_iff_lt_or_eq.1 hi with h | rfl
            · exact HT.out i h
            · exact fun e => absurd (HTT.out.2 e.2) (by decide))
          go_wp2_with fail
          have f0 := fun d os => cell_regrown d0 d os
          have f1 := fun d os => cell_regrown d1 d os
          have f2 := fun d os => cell_regrown d2 d os
          have f3 := fun d os => cell_regrown d3 d os
          have f4 := fun d os => cell_regrown p0 d os
          refine wp_region_quiet_below (by kernel_rfl) (by kernel_rfl) ?_
          repeat (any_goals (first | go_big_quiet_step (exact cA _ _) | quiet_step (exact cA _ _)))
          refine wpQuiet_nil ?_
          intro _ hw'
          obtain ⟨⟨dq, osq⟩, hw''⟩ := hw'
          subst hw''
          obtain ⟨W4, hW4⟩ : ∃ W, Sort.grow (redrawn wr dq) osq = W := ⟨_, rfl⟩
          have bq : Below wr.heap.size wr W4 := hW4 ▸ below_regrown _ dq osq
          rw [hW4]
          have H2 := hid (HH.out.below bq)
          have K2 := hid (HK.out.below bq)
          have R2 := hid ((bq.block _ (Array.getElem?_eq_some_iff.1 HR.out).1).trans HR.out)
          have BB := hid (HB.out.trans (bq.mono HB.out.size))
          clear d0 d1 d2 d3 p0 f0 f1 f2 f3 f4 HH HK HR HB HD bq hW4 cA
          clear HT HTT
          go_wp2_with fail
          go_roundg (4 - (j + 1))
          case measure => omega
          case rel => exact ⟨j + 1, rfl, by go_num, by omega, HT2, H2, K2, R2, BB⟩
        | true =>
          have HE := hid (show Sc.begun wide sure ps = true from begun_yes hlt HSL.out (HTT.out.1 rfl))
          go_wp2_with fail
          have f0 := fun d os => cell_regrown d0 d os
          have f1 := fun d os => cell_regrown d1 d os
          have f2 := fun d os => cell_regrown d2 d os
          have f3 := fun d os => cell_regrown d3 d os
          have f4 := fun d os => cell_regrown p0 d os
          refine wp_region_quiet_below (by kernel_rfl) (by kernel_rfl) ?_
          repeat (any_goals (first | go_big_quiet_step (exact cA _ _) | quiet_step (exact cA _ _)))
          refine wpQuiet_nil ?_
          intro _ hw'
          obtain ⟨⟨dq, osq⟩, hw''⟩ := hw'
          subst hw''
          obtain ⟨W4, hW4⟩ : ∃ W, Sort.grow (redrawn wr dq) osq = W := ⟨_, rfl⟩
          have bq : Below wr.heap.size wr W4 := hW4 ▸ below_regrown _ dq osq
          rw [hW4]
          have H2 := hid (HH.out.below bq)
          have K2 := hid (HK.out.below bq)
          have R2 := hid ((bq.block _ (Array.getElem?_eq_some_iff.1 HR.out).1).trans HR.out)
          have BB := hid (HB.out.trans (bq.mono HB.out.size))
          clear d0 d1 d2 d3 p0 f0 f1 f2 f3 f4 HH HK HR HB HD bq hW4 cA
          clear HT HTT
          go_wp2_with fail
          go_ret
          exact ⟨ret_bool HE.out.symm, BB.out⟩
      · skip
        have HT2 := hid (show ∀ i, i < j + 1 → ¬ (sure = (bgL i).length ∧ TE wide ps (bgL i)) from fun i hi => by
          rcases Nat.lt_succ_iff_lt_or_eq.1 hi with h | rfl
          · exact HT.out i h
          · exact fun e => hsl e.1)
        have t0 : ((sure : Int) == (S.size : Int)) = false := by rw [HSt.out.size]; simp; omega
        clear HT hsl
        go_wp2_with fail
        go_quiet (fail)
        obtain ⟨W4, hW4⟩ : ∃ W, wr.drewN nq = W := ⟨_, rfl⟩
        have bq : Below wr.heap.size wr W4 := hW4 ▸ below_drewN (Below.refl _ _) nq
        rw [hW4]
        have H2 := hid (HH.out.below bq)
        have K2 := hid (HK.out.below bq)
        have R2 := hid ((bq.block _ (Array.getElem?_eq_some_iff.1 HR.out).1).trans HR.out)
        have BB := hid (HB.out.trans (bq.mono HB.out.size))
        clear d0 d1 d2 d3 p0 HH HK HR HB HD bq hW4
        go_wp2_with fail
        go_roundg (4 - (j + 1))
        case measure => omega
        case rel => exact ⟨j + 1, rfl, by go_num, by omega, HT2, H2, K2, R2, BB⟩
    · have hj7 : j = 4 := by omega
      have k1 : ¬ ((j : Int) < 4) := by omega
      have HE := hid (begun_no (w := wide) (ps := ps) (sure := sure) (fun i hi => HT.out i (by omega)))
      clear hj7 HT
      go_wp2_with fail
      go_ret
      exact ⟨ret_bool HE.out.symm, HB.out⟩
end
end Go.Proofs.YtiheagkgpbkkfaaDoor
