/-
  A merge put among others, rising; the walk of the reference's put.
-/
import Derived.Test.YtfgbpjajkmfkoaaVrW1
import Derived.Test.YtfgbpjajkmfkoaaVcIns
import Derived.Lib.QuietBelow
import Derived.Deep.QuietTactic
import Derived.BigQuiet
namespace Go.Proofs.Ytfgbpjajkmfkoaa
open Go.RowKit Go.Maps
set_option linter.unusedVariables false

/-- A merge put among others. -/
def Vc.Ins (ms : List Mg4) (m : Mg4) (out : List Mg4) : Prop :=
  ∃ k, k ≤ ms.length ∧ out = ms.take k ++ m :: ms.drop k ∧ (∀ i, i < k → Vc.Ahead (mat ms i) m) ∧ (k < ms.length → ¬ Vc.Ahead (mat ms k) m)
theorem Vc.Ins.perm {ms : List Mg4} {m : Mg4} {out : List Mg4} (h : Vc.Ins ms m out) : out.Perm (m :: ms) := by
  obtain ⟨k, _, rfl, _⟩ := h
  exact ins_perm ms m k
theorem Vc.Ins.up {ms : List Mg4} {m : Mg4} {out : List Mg4} (h : Vc.Ins ms m out) (hs : ms.Pairwise (fun a b => ¬ Vc.Ahead b a)) : out.Pairwise (fun a b => ¬ Vc.Ahead b a) := by
  obtain ⟨k, hk, rfl, h1, h2⟩ := h
  refine ins_sorted Vc.Ahead hs (fun a ha => ?_) (fun b hb => ?_)
  · obtain ⟨i, hi, rfl⟩ := List.mem_iff_getElem.1 ha
    have hi' : i < k := by rw [List.length_take] at hi; omega
    have h3 := h1 i hi'
    have e : (ms.take k)[i] = mat ms i := by simp [mat, show i < ms.length by omega]
    rw [e]
    exact fun h4 => Vc.Ahead.irrefl _ (h3.trans h4)
  · obtain ⟨i, hi, rfl⟩ := List.mem_iff_getElem.1 hb
    rw [List.length_drop] at hi
    have h3 := h2 (by omega)
    have e : (ms.drop k)[i] = mat ms (k + i) := by simp [mat, show k + i < ms.length by omega]
    rw [e]
    by_cases h0 : i = 0
    · subst h0; exact h3
    · have h4 := (List.pairwise_iff_getElem.1 hs) k (k + i) (by omega) (by omega) (by omega)
      have e1 : ms[k] = mat ms k := by simp [mat, show k < ms.length by omega]
      have e2 : ms[k + i] = mat ms (k + i) := by simp [mat, show k + i < ms.length by omega]
      rw [e1, e2] at h4
      exact ahead_ntrans h4 h3

theorem Qw.src {w : World} {a : Option Addr} {n cap : Nat} {xs : List Mg4} (h : Qw w a n cap xs) : Src w a n cap 4 (mv xs) :=
  ⟨by rw [mv_length, h.len], mv_one xs, h.nil, fun ad ha j u hu => by
    obtain ⟨i, hi, hc⟩ := mv_inv hu
    have hn : i < n := by rw [← h.len]; exact hi
    obtain ⟨b, off, hab, _, hcell⟩ := h.at' (by omega)
    rw [ha] at hab
    cases hab
    rw [Addr.add_lit]
    obtain ⟨c0, c1, c2, c3⟩ := hcell i hn
    rcases hc with ⟨rfl, rfl⟩ | ⟨rfl, rfl⟩ | ⟨rfl, rfl⟩ | ⟨rfl, rfl⟩
    · exact c0
    · rwa [Nat.add_assoc] at c1
    · rwa [Nat.add_assoc] at c2
    · rwa [Nat.add_assoc] at c3⟩
theorem qw_drop {w : World} {b off n cap : Nat} {xs : List Mg4} (h : Qw w (some ⟨b, off, none⟩) n cap xs) (k : Nat) (hk : k ≤ n) : Qw w (some ⟨b, off + k * 4, none⟩) (n - k) (cap - k) (xs.drop k) :=
  ⟨by rw [List.length_drop, h.len], by have := h.le; omega, by have := h.mx; omega, fun e => absurd e (by simp), fun h0 => by
    obtain ⟨b', off', e, hlt, hc⟩ := h.at' (by omega)
    cases e
    refine ⟨b, off + k * 4, rfl, hlt, fun i hi => ?_⟩
    have q := hc (k + i) (by omega)
    have e1 : mat (xs.drop k) i = mat xs (k + i) := by simp [mat, List.getD_eq_getElem?_getD]
    have e2 : off + (k + i) * 4 = off + k * 4 + i * 4 := by omega
    rw [e1, ← e2]
    exact q⟩

set_option maxRecDepth 100000 in
set_option maxHeartbeats 6400000 in
theorem rput_calls {w : World} {a : Option Addr} {n c : Nat} {ms : List Mg4} (Q : Qw w a n c ms) (ha : a = none ∨ ∃ b off, a = some ⟨b, off, none⟩) (hn : n ≤ 1000000) (m0 m1 m2 m3 : Int) :
    Calls Try.prog 41 #[.slice a n c, .agg #[.int .i64 m0, .int .i64 m1, .int .i64 m2, .int .i64 m3]] w fun e w' => (∃ a' c' out, e = .returned (.slice a' (n + 1) c') ∧ Vc.Ins ms (m0, m1, m2, m3) out ∧ Qw w' a' (n + 1) c' out ∧ (Hi w.heap.size a' ∧ (a' = none ∨ ∃ b off, a' = some ⟨b, off, none⟩))) ∧ Below w.heap.size w w' := by
  have hl := Q.len
  have hle := Q.le
  have hmx := Q.mx
  have QW := hid Q
  clear Q
  obtain ⟨i0, hi, hz0, hz1, hz2⟩ := info_parts Try.infoMg
  have B0 := hid ((Below.refl w.heap.size w).alloc (Nat.le_refl _) (.cells #[.int .i64 m0, .int .i64 m1, .int .i64 m2, .int .i64 m3] 34))
  have X0 := hid (Bx4.new w 34 (.int .i64 m0) (.int .i64 m1) (.int .i64 m2) (.int .i64 m3))
  go_enter Try.func41, Try.ntmps41
  go_wp2_with fail
  go_loopg [5] (n + 1) (fun r iv wr => ∃ k : Nat, r = n + 1 - k ∧ iv = .int .i64 (k : Int) ∧ k ≤ n ∧ Hid (∀ i, i < k → Vc.Ahead (mat ms i) (m0, m1, m2, m3)) ∧ Hid (Bx4 wr w.heap.size 34 (.int .i64 m0) (.int .i64 m1) (.int .i64 m2) (.int .i64 m3)) ∧ Hid (Below w.heap.size w wr))
  case atStart => exact ⟨0, rfl, rfl, by omega, hid (fun i hi => by omega), X0, B0⟩
  case round =>
    obtain ⟨k, rfl, rfl, hk, HA, HX, HB⟩ := hrel
    have y0 := fun d os => cell_regrown HX.out.cell0 d os
    have y1 := fun d os => cell_regrown HX.out.cell1 d os
    have y2 := fun d os => cell_regrown HX.out.cell2 d os
    have y3 := fun d os => cell_regrown HX.out.cell3 d os
    have g0 : (0 : Int) ≤ k := by omega
    have g3 : (k : Int) ≤ c := by omega
    have g4 : (k : Int) ≤ n := by omega
    have X2 := hid (fun d os => HX.out.below (below_regrown wr d os) HX.out.lt)
    have B2 := hid (fun d os => HB.out.trans ((below_regrown wr d os).mono HB.out.size))
    by_cases hlt : k < n
    · have g1 : (k : Int) < n := by omega
      have g2 : IntKind.i64.wrap ((k : Int) + 1) = k + 1 := i64_in (by omega) (by omega)
      obtain ⟨b, off, rfl, hbl, hc⟩ := (QW.out.below HB.out).at' (by omega)
      obtain ⟨p0, p1, p2, p3⟩ := hc k hlt
      obtain ⟨⟨x0, x1, x2, x3⟩, hx⟩ : ∃ x, mat ms k = x := ⟨_, rfl⟩
      rw [hx] at p0 p1 p2 p3
      have z0 := fun d os => cell_regrown p0 d os
      have z1 := fun d os => cell_regrown p1 d os
      have z2 := fun d os => cell_regrown p2 d os
      have z3 := fun d os => cell_regrown p3 d os
      have HQ := hid hx
      clear hc hx p0 p1 p2 p3
      obtain ⟨t, ht⟩ : ∃ t : Bool, t = true ↔ Vc.Ahead (x0, x1, x2, x3) (m0, m1, m2, m3) := by
        by_cases h : Vc.Ahead (x0, x1, x2, x3) (m0, m1, m2, m3)
        · exact ⟨true, by simp [h]⟩
        · exact ⟨false, by simp [h]⟩
      have cA := fun d os => Calls.regrown_of (says_is (rahead_calls x0 x1 x2 x3 m0 m1 m2 m3 (Sort.grow (redrawn wr d) os)) ht)
      have HT := hid ht
      clear ht
      cases t
      · go_wp2_with fail
        refine wp_region_quiet_below (by kernel_rfl) (by kernel_rfl) ?_
        repeat (any_goals (first | go_big_quiet_step (exact cA _ _) | quiet_step (exact cA _ _)))
        refine wpQuiet_nil ?_
        intro w1 hw'
        obtain ⟨⟨dq, osq⟩, hw''⟩ := hw'
        have X1 := hid (X2.out dq osq)
        have B1 := hid (B2.out dq osq)
        rw [← hw''] at X1 B1
        have HE := hid (show k < ms.length → ¬ Vc.Ahead (mat ms k) (m0, m1, m2, m3) from fun _ h => by rw [HQ.out] at h; exact absurd (HT.out.2 h) (by decide))
        clear hw'' X2 B2 HX HB y0 y1 y2 y3 z0 z1 z2 z3 cA
        have hKw := B1.out.size
        have hXl := X1.out.lt
        have B2 := hid (B1.out.alloc B1.out.size (.cells #[] 34))
        have X2 := hid (X1.out.alloc (.cells #[] 34))
        have S1 := hid ((QW.out.below B2.out).first k hk).src
        have OWN := hid (World.ownsRow_made (e := 34) (size := 4) w1 #[] 0 (Nat.le_refl _) (Nat.zero_le _) (by simp))
        go_wp2_with (first | (at_builtin; refine wpList_append_src rfl _ _ 23 rfl w1.heap.size 34 i0 (.agg #[.int .i64 0, .int .i64 0, .int .i64 0, .int .i64 0]) 4 32 Try.underlying23 hi hz0 hz1 hz2 rfl (by decide) _ _ _ rfl OWN.out (some ⟨b, off, none⟩) k c (mv (ms.take k)) rfl S1.out (by unfold maxLen; omega) (by omega) (by simp) ?_; intro v3 w3 own gr loc; have O3 := hid own; have G3 := hid gr; clear own gr loc; have B3 := hid (B2.out.grown G3.out B2.out.size (by rintro q ⟨⟩; exact hKw)); have X3 := hid (X2.out.kept G3.out (fun h => absurd (show w.heap.size = w1.heap.size from Option.some.inj h) (by omega))); have hw3 := G3.out.size; have y0 := X3.out.cell0; have y1 := X3.out.cell1; have y2 := X3.out.cell2; have y3 := X3.out.cell3; have OB3 := hid (own_at O3.out); have B4 := hid (B3.out.alloc B3.out.size (.cells #[.int .i64 m0, .int .i64 m1, .int .i64 m2, .int .i64 m3] 34)); clear OWN S1) | (at_builtin; refine wpList_append_src rfl _ _ 23 rfl w1.heap.size 34 i0 (.agg #[.int .i64 0, .int .i64 0, .int .i64 0, .int .i64 0]) 4 32 Try.underlying23 hi hz0 hz1 hz2 rfl (by decide) v3 (0 + k) _ rfl (O3.out.alloc _) (some ⟨w3.heap.size, 0, none⟩) 1 1 [.int .i64 m0, .int .i64 m1, .int .i64 m2, .int .i64 m3] rfl (src_merge m0 m1 m2 m3 _) (by unfold maxLen; omega) (by omega) (by simp at hw3 ⊢; omega) ?_; intro v5 w5 own gr loc; have O5 := hid own; have G5 := hid gr; clear own gr loc; have B5 := hid (B4.out.grown G5.out B4.out.size (fun q hq => by have := OB3.out q hq; omega)); have OB5 := hid (own_at O5.out); have hw5 := G5.out.size; have S2 := hid ((qw_drop (QW.out.below B5.out) k hk).src); clear O3 X3 y0 y1 y2 y3) | (at_builtin; refine wpList_append_src rfl _ _ 23 rfl w1.heap.size 34 i0 (.agg #[.int .i64 0, .int .i64 0, .int .i64 0, .int .i64 0]) 4 32 Try.underlying23 hi hz0 hz1 hz2 rfl (by decide) v5 (0 + k + 1) _ rfl O5.out (some ⟨b, off + k * 4, none⟩) (n - k) (c - k) (mv (ms.drop k)) rfl S2.out (by unfold maxLen; omega) (by omega) (by simp at hw3 hw5 ⊢; omega) ?_; intro v7 w7 own gr loc; have O7 := hid own; have G7 := hid gr; clear own gr loc; have B7 := hid (B5.out.grown G7.out B5.out.size (fun q hq => by have := OB5.out q hq; omega)); clear O5 S2))
        have O8 := hid (show w7.ownsRow w1.heap.size 34 4 v7 (n + 1) (mv (ms.take k ++ (m0, m1, m2, m3) :: ms.drop k)) from by
          have := O7.out
          rw [List.nil_append, mv_snoc, mv_append, List.append_assoc, show 0 + k + 1 + (n - k) = n + 1 by omega] at this
          exact this)
        obtain ⟨a', c', rfl, hq⟩ := Qw.ofOwn O8.out
        have HQ8 := hid hq
        have HI8 := hid ((hi_own O8.out).mono B1.out.size)
        have HA8 := hid (own_addr O8.out)
        clear hq O7 O8
        go_ret
        exact ⟨⟨a', c', _, rfl, ⟨k, by omega, rfl, HA.out, HE.out⟩, HQ8.out, HI8.out, HA8.out⟩, B7.out⟩
      · go_wp2_with fail
        refine wp_region_quiet_below (by kernel_rfl) (by kernel_rfl) ?_
        repeat (any_goals (first | go_big_quiet_step (exact cA _ _) | quiet_step (exact cA _ _)))
        refine wpQuiet_nil ?_
        intro w1 hw'
        obtain ⟨⟨dq, osq⟩, hw''⟩ := hw'
        have X1 := hid (X2.out dq osq)
        have B1 := hid (B2.out dq osq)
        rw [← hw''] at X1 B1
        have HR := hid (show ∀ i, i < k + 1 → Vc.Ahead (mat ms i) (m0, m1, m2, m3) from fun i hi => by
          by_cases h : i < k
          · exact HA.out i h
          · obtain rfl : i = k := by omega
            rw [HQ.out]; exact HT.out.1 (by first | rfl | trivial))
        clear hw'' X2 B2 HX HB y0 y1 y2 y3 z0 z1 z2 z3 cA
        go_wp2_with fail
        go_roundg (n + 1 - (k + 1))
        case measure => omega
        case rel => exact ⟨k + 1, rfl, by go_num, by omega, HR, X1, B1⟩
    · have g1 : ¬ (k : Int) < n := by omega
      have dg1 : decide ((k : Int) < n) = false := decide_eq_false g1
      have ng1 : ¬ k < n := hlt
      go_wp2_with fail
      refine wp_region_quiet_below (by kernel_rfl) (by kernel_rfl) ?_
      repeat (any_goals (first | go_big_quiet_step (fail) | quiet_step (fail)))
      refine wpQuiet_nil ?_
      intro w1 hw'
      obtain ⟨⟨dq, osq⟩, hw''⟩ := hw'
      have X1 := hid (X2.out dq osq)
      have B1 := hid (B2.out dq osq)
      rw [← hw''] at X1 B1
      have HE := hid (show k < ms.length → ¬ Vc.Ahead (mat ms k) (m0, m1, m2, m3) from fun h => by omega)
      clear hw'' X2 B2 HX HB y0 y1 y2 y3
      rcases ha with rfl | ⟨b, off, rfl⟩
      · obtain ⟨rfl, rfl⟩ := QW.out.nil rfl
        have hms : ms = [] := List.eq_nil_of_length_eq_zero hl
        subst hms
        obtain rfl : k = 0 := by omega
        have hKw := B1.out.size
        have hXl := X1.out.lt
        have B2 := hid (B1.out.alloc B1.out.size (.cells #[] 34))
        have X2 := hid (X1.out.alloc (.cells #[] 34))
        have S1 := hid ((QW.out.below B2.out).first 0 (Nat.le_refl _)).src
        have OWN := hid (World.ownsRow_made (e := 34) (size := 4) w1 #[] 0 (Nat.le_refl _) (Nat.zero_le _) (by simp))
        go_wp2_with (first | (at_builtin; refine wpList_append_src rfl _ _ 23 rfl w1.heap.size 34 i0 (.agg #[.int .i64 0, .int .i64 0, .int .i64 0, .int .i64 0]) 4 32 Try.underlying23 hi hz0 hz1 hz2 rfl (by decide) _ _ _ rfl OWN.out none 0 0 (mv ([] : List Mg4)) rfl S1.out (by unfold maxLen; omega) (by omega) (by simp) ?_; intro v3 w3 own gr loc; have O3 := hid own; have G3 := hid gr; clear own gr loc; have B3 := hid (B2.out.grown G3.out B2.out.size (by rintro q ⟨⟩; exact hKw)); have X3 := hid (X2.out.kept G3.out (fun h => absurd (show w.heap.size = w1.heap.size from Option.some.inj h) (by omega))); have hw3 := G3.out.size; have y0 := X3.out.cell0; have y1 := X3.out.cell1; have y2 := X3.out.cell2; have y3 := X3.out.cell3; have OB3 := hid (own_at O3.out); have B4 := hid (B3.out.alloc B3.out.size (.cells #[.int .i64 m0, .int .i64 m1, .int .i64 m2, .int .i64 m3] 34)); clear OWN S1) | (at_builtin; refine wpList_append_src rfl _ _ 23 rfl w1.heap.size 34 i0 (.agg #[.int .i64 0, .int .i64 0, .int .i64 0, .int .i64 0]) 4 32 Try.underlying23 hi hz0 hz1 hz2 rfl (by decide) v3 (0 + 0) _ rfl (O3.out.alloc _) (some ⟨w3.heap.size, 0, none⟩) 1 1 [.int .i64 m0, .int .i64 m1, .int .i64 m2, .int .i64 m3] rfl (src_merge m0 m1 m2 m3 _) (by unfold maxLen; omega) (by omega) (by simp at hw3 ⊢; omega) ?_; intro v5 w5 own gr loc; have O5 := hid own; have G5 := hid gr; clear own gr loc; have B5 := hid (B4.out.grown G5.out B4.out.size (fun q hq => by have := OB3.out q hq; omega)); have OB5 := hid (own_at O5.out); have hw5 := G5.out.size; have S2 := hid ((QW.out.below B5.out).src); clear O3 X3 y0 y1 y2 y3) | (at_builtin; refine wpList_append_src rfl _ _ 23 rfl w1.heap.size 34 i0 (.agg #[.int .i64 0, .int .i64 0, .int .i64 0, .int .i64 0]) 4 32 Try.underlying23 hi hz0 hz1 hz2 rfl (by decide) v5 (0 + 0 + 1) _ rfl O5.out none 0 0 (mv ([] : List Mg4)) rfl S2.out (by unfold maxLen; omega) (by omega) (by simp at hw3 hw5 ⊢; omega) ?_; intro v7 w7 own gr loc; have O7 := hid own; have G7 := hid gr; clear own gr loc; have B7 := hid (B5.out.grown G7.out B5.out.size (fun q hq => by have := OB5.out q hq; omega)); clear O5 S2))
        have O8 := hid (show w7.ownsRow w1.heap.size 34 4 v7 (0 + 1) (mv (([] : List Mg4) ++ (m0, m1, m2, m3) :: ([] : List Mg4))) from by
          have := O7.out
          rw [List.nil_append, mv_snoc, mv_append, List.append_assoc, show 0 + 0 + 1 + 0 = 0 + 1 by omega] at this
          exact this)
        obtain ⟨a', c', rfl, hq⟩ := Qw.ofOwn O8.out
        have HQ8 := hid hq
        have HI8 := hid ((hi_own O8.out).mono B1.out.size)
        have HA8 := hid (own_addr O8.out)
        clear hq O7 O8
        go_ret
        exact ⟨⟨a', c', _, rfl, ⟨0, Nat.le_refl _, rfl, HA.out, HE.out⟩, HQ8.out, HI8.out, HA8.out⟩, B7.out⟩
      · obtain rfl : k = n := by omega
        by_cases hck : k = c
        · subst hck
          have hKw := B1.out.size
          have hXl := X1.out.lt
          have B2 := hid (B1.out.alloc B1.out.size (.cells #[] 34))
          have X2 := hid (X1.out.alloc (.cells #[] 34))
          have S1 := hid ((QW.out.below B2.out).first k hk).src
          have OWN := hid (World.ownsRow_made (e := 34) (size := 4) w1 #[] 0 (Nat.le_refl _) (Nat.zero_le _) (by simp))
          go_wp2_with (first | (at_builtin; refine wpList_append_src rfl _ _ 23 rfl w1.heap.size 34 i0 (.agg #[.int .i64 0, .int .i64 0, .int .i64 0, .int .i64 0]) 4 32 Try.underlying23 hi hz0 hz1 hz2 rfl (by decide) _ _ _ rfl OWN.out (some ⟨b, off, none⟩) k k (mv (ms.take k)) rfl S1.out (by unfold maxLen; omega) (by omega) (by simp) ?_; intro v3 w3 own gr loc; have O3 := hid own; have G3 := hid gr; clear own gr loc; have B3 := hid (B2.out.grown G3.out B2.out.size (by rintro q ⟨⟩; exact hKw)); have X3 := hid (X2.out.kept G3.out (fun h => absurd (show w.heap.size = w1.heap.size from Option.some.inj h) (by omega))); have hw3 := G3.out.size; have y0 := X3.out.cell0; have y1 := X3.out.cell1; have y2 := X3.out.cell2; have y3 := X3.out.cell3; have OB3 := hid (own_at O3.out); have B4 := hid (B3.out.alloc B3.out.size (.cells #[.int .i64 m0, .int .i64 m1, .int .i64 m2, .int .i64 m3] 34)); clear OWN S1) | (at_builtin; refine wpList_append_src rfl _ _ 23 rfl w1.heap.size 34 i0 (.agg #[.int .i64 0, .int .i64 0, .int .i64 0, .int .i64 0]) 4 32 Try.underlying23 hi hz0 hz1 hz2 rfl (by decide) v3 (0 + k) _ rfl (O3.out.alloc _) (some ⟨w3.heap.size, 0, none⟩) 1 1 [.int .i64 m0, .int .i64 m1, .int .i64 m2, .int .i64 m3] rfl (src_merge m0 m1 m2 m3 _) (by unfold maxLen; omega) (by omega) (by simp at hw3 ⊢; omega) ?_; intro v5 w5 own gr loc; have O5 := hid own; have G5 := hid gr; clear own gr loc; have B5 := hid (B4.out.grown G5.out B4.out.size (fun q hq => by have := OB3.out q hq; omega)); have OB5 := hid (own_at O5.out); have hw5 := G5.out.size; have S2 := hid (show Src w5 (some ⟨b, off, none⟩) 0 0 4 (mv (ms.drop k)) from by rw [List.drop_of_length_le (by omega)]; exact ⟨rfl, (by simp [mv]), (fun h => by cases h), (fun _ _ j u hu => by simp [mv] at hu)⟩); clear O3 X3 y0 y1 y2 y3) | (at_builtin; refine wpList_append_src rfl _ _ 23 rfl w1.heap.size 34 i0 (.agg #[.int .i64 0, .int .i64 0, .int .i64 0, .int .i64 0]) 4 32 Try.underlying23 hi hz0 hz1 hz2 rfl (by decide) v5 (0 + k + 1) _ rfl O5.out (some ⟨b, off, none⟩) 0 0 (mv (ms.drop k)) rfl S2.out (by unfold maxLen; omega) (by omega) (by simp at hw3 hw5 ⊢; omega) ?_; intro v7 w7 own gr loc; have O7 := hid own; have G7 := hid gr; clear own gr loc; have B7 := hid (B5.out.grown G7.out B5.out.size (fun q hq => by have := OB5.out q hq; omega)); clear O5 S2))
          have O8 := hid (show w7.ownsRow w1.heap.size 34 4 v7 (k + 1) (mv (ms.take k ++ (m0, m1, m2, m3) :: ms.drop k)) from by
            have := O7.out
            rw [List.nil_append, mv_snoc, mv_append, List.append_assoc, show 0 + k + 1 + 0 = k + 1 by omega] at this
            exact this)
          obtain ⟨a', c', rfl, hq⟩ := Qw.ofOwn O8.out
          have HQ8 := hid hq
          have HI8 := hid ((hi_own O8.out).mono B1.out.size)
          have HA8 := hid (own_addr O8.out)
          clear hq O7 O8
          go_ret
          refine ⟨?_, B7.out⟩
          first
            | exact ⟨a', c', rfl, _, ⟨k, by omega, rfl, HA.out, HE.out⟩, HQ8.out, HI8.out, HA8.out⟩
            | exact ⟨a', c', _, rfl, ⟨k, by omega, rfl, HA.out, HE.out⟩, HQ8.out, HI8.out, HA8.out⟩
        · have hck2 : ¬ c = k := fun h => hck h.symm
          have hKw := B1.out.size
          have hXl := X1.out.lt
          have B2 := hid (B1.out.alloc B1.out.size (.cells #[] 34))
          have X2 := hid (X1.out.alloc (.cells #[] 34))
          have S1 := hid ((QW.out.below B2.out).first k hk).src
          have OWN := hid (World.ownsRow_made (e := 34) (size := 4) w1 #[] 0 (Nat.le_refl _) (Nat.zero_le _) (by simp))
          go_wp2_with (first | (at_builtin; refine wpList_append_src rfl _ _ 23 rfl w1.heap.size 34 i0 (.agg #[.int .i64 0, .int .i64 0, .int .i64 0, .int .i64 0]) 4 32 Try.underlying23 hi hz0 hz1 hz2 rfl (by decide) _ _ _ rfl OWN.out (some ⟨b, off, none⟩) k c (mv (ms.take k)) rfl S1.out (by unfold maxLen; omega) (by omega) (by simp) ?_; intro v3 w3 own gr loc; have O3 := hid own; have G3 := hid gr; clear own gr loc; have B3 := hid (B2.out.grown G3.out B2.out.size (by rintro q ⟨⟩; exact hKw)); have X3 := hid (X2.out.kept G3.out (fun h => absurd (show w.heap.size = w1.heap.size from Option.some.inj h) (by omega))); have hw3 := G3.out.size; have y0 := X3.out.cell0; have y1 := X3.out.cell1; have y2 := X3.out.cell2; have y3 := X3.out.cell3; have OB3 := hid (own_at O3.out); have B4 := hid (B3.out.alloc B3.out.size (.cells #[.int .i64 m0, .int .i64 m1, .int .i64 m2, .int .i64 m3] 34)); clear OWN S1) | (at_builtin; refine wpList_append_src rfl _ _ 23 rfl w1.heap.size 34 i0 (.agg #[.int .i64 0, .int .i64 0, .int .i64 0, .int .i64 0]) 4 32 Try.underlying23 hi hz0 hz1 hz2 rfl (by decide) v3 (0 + k) _ rfl (O3.out.alloc _) (some ⟨w3.heap.size, 0, none⟩) 1 1 [.int .i64 m0, .int .i64 m1, .int .i64 m2, .int .i64 m3] rfl (src_merge m0 m1 m2 m3 _) (by unfold maxLen; omega) (by omega) (by simp at hw3 ⊢; omega) ?_; intro v5 w5 own gr loc; have O5 := hid own; have G5 := hid gr; clear own gr loc; have B5 := hid (B4.out.grown G5.out B4.out.size (fun q hq => by have := OB3.out q hq; omega)); have OB5 := hid (own_at O5.out); have hw5 := G5.out.size; have S2 := hid (show Src w5 (some ⟨b, off + k * 4, none⟩) 0 (c - k) 4 (mv (ms.drop k)) from by rw [List.drop_of_length_le (by omega)]; exact ⟨rfl, (by simp [mv]), (fun h => by cases h), (fun _ _ j u hu => by simp [mv] at hu)⟩); clear O3 X3 y0 y1 y2 y3) | (at_builtin; refine wpList_append_src rfl _ _ 23 rfl w1.heap.size 34 i0 (.agg #[.int .i64 0, .int .i64 0, .int .i64 0, .int .i64 0]) 4 32 Try.underlying23 hi hz0 hz1 hz2 rfl (by decide) v5 (0 + k + 1) _ rfl O5.out (some ⟨b, off + k * 4, none⟩) 0 (c - k) (mv (ms.drop k)) rfl S2.out (by unfold maxLen; omega) (by omega) (by simp at hw3 hw5 ⊢; omega) ?_; intro v7 w7 own gr loc; have O7 := hid own; have G7 := hid gr; clear own gr loc; have B7 := hid (B5.out.grown G7.out B5.out.size (fun q hq => by have := OB5.out q hq; omega)); clear O5 S2))
          have O8 := hid (show w7.ownsRow w1.heap.size 34 4 v7 (k + 1) (mv (ms.take k ++ (m0, m1, m2, m3) :: ms.drop k)) from by
            have := O7.out
            rw [List.nil_append, mv_snoc, mv_append, List.append_assoc, show 0 + k + 1 + 0 = k + 1 by omega] at this
            exact this)
          obtain ⟨a', c', rfl, hq⟩ := Qw.ofOwn O8.out
          have HQ8 := hid hq
          have HI8 := hid ((hi_own O8.out).mono B1.out.size)
          have HA8 := hid (own_addr O8.out)
          clear hq O7 O8
          go_ret
          refine ⟨?_, B7.out⟩
          first
            | exact ⟨a', c', rfl, _, ⟨k, by omega, rfl, HA.out, HE.out⟩, HQ8.out, HI8.out, HA8.out⟩
            | exact ⟨a', c', _, rfl, ⟨k, by omega, rfl, HA.out, HE.out⟩, HQ8.out, HI8.out, HA8.out⟩
end Go.Proofs.Ytfgbpjajkmfkoaa
