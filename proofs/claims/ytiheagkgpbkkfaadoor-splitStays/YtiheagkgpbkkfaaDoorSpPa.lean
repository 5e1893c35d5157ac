/-
  The walks of split.isMark, split.cut, split.Decided, split.Bytes.
-/
import Derived.Test.YtiheagkgpbkkfaaDoorSpR3
import Derived.Test.YtiheagkgpbkkfaaDoorScW6
import Derived.Test.YtiheagkgpbkkfaaDoorSlM
import Derived.Test.YtiheagkgpbkkfaaDoorRdIt
namespace Go.Proofs.YtiheagkgpbkkfaaDoor
open Go.RowKit
set_option linter.unusedVariables false
open Pr (it)
theorem sp_no {x : Int} (h : x < 0 ∨ 255 < x) : Sp.isB x = false := by
  cases hb : Sp.isB x with
  | false => rfl
  | true => have := Sp.isB_iff.1 hb; omega
set_option maxRecDepth 100000 in
set_option maxHeartbeats 800000 in
theorem isMark_calls (x : Int) (w : World) : Calls Tryd.prog 26 #[.int .i64 x] w fun e w' => e = .returned (.bool (!Sp.isB x)) ∧ w' = w := by
  by_cases h0 : x < 0
  · rw [sp_no (.inl h0)]
    go_enter Tryd.func26, Tryd.ntmps26
    go_wp2_with fail
    go_ret
    exact ⟨rfl, rfl⟩
  · by_cases h1 : 255 < x
    · have k1 : 256 ≤ x := by omega
      rw [sp_no (.inr h1)]
      go_enter Tryd.func26, Tryd.ntmps26
      go_wp2_with fail
      go_ret
      exact ⟨rfl, rfl⟩
    · have k1 : ¬ 256 ≤ x := by omega
      rw [Sp.isB_iff.2 ⟨by omega, by omega⟩]
      go_enter Tryd.func26, Tryd.ntmps26
      go_wp2_with fail
      go_ret
      exact ⟨rfl, rfl⟩
/-- Bytes alone: the first piece and the others. -/
theorem Sp.sp_run {X : List Int → Bool → Nat × Bool} (hX : Sp.Cut X) (fin o : Bool) {D : List Int} (h0 : 0 < D.length) (hr : Sp.rl D = D.length) {N : Nat} {d : Bool} (hq : X D fin = (N, d)) : Sp.sp X fin o D = (N, !(o || !d)) :: Sp.sp X fin (o || !d) (D.drop N) := by
  cases D with
  | nil => simp at h0
  | cons x l =>
    have hx : Sp.isB x = true := by
      cases hx : Sp.isB x with
      | true => rfl
      | false => unfold Sp.rl at hr; rw [Sc.tw_cons_no hx] at hr; simp at hr
    refine Sp.sp_byte hX fin o hx ?_
    rw [hr, List.take_length, decide_eq_false (by omega), Bool.or_false]
    exact hq
set_option maxRecDepth 100000 in
set_option maxHeartbeats 6400000 in
theorem cut_calls {w : World} {ta ba : Option Addr} {tn tc bc : Nat} {L H C : Nat → Int} {s : List Int} (kd : Nat) (hk : kd ≤ 3) (hT : Rs w ta tn tc L H C) (hm : Cl.may L H C tn = true) (hS : Sl w ba s.length bc (Sp.fn s)) (hr : Sp.rl s = s.length) (hn : s.length ≤ 100000) (hE : Ends w) (fin : Bool) :
    Calls Tryd.prog 23 #[.int .i64 (kd : Nat), .slice ta tn tc, .slice ba s.length bc, .bool fin] w fun e w' => PcOut w (Sp.sp (Sp.Xk (Cl.of L H C tn) kd) fin false s) e w' := by
  obtain ⟨i0, hi0, hz0, hz1, hz2⟩ := info_parts Tryd.infoPc
  obtain ⟨cl, hcl⟩ : ∃ cl : Int → Int, Cl.of L H C tn = cl := ⟨_, rfl⟩
  have hrg : ∀ p, 0 ≤ cl p ∧ cl p ≤ 4 := by rw [← hcl]; exact fun p => Cl.of_rg L H C tn p
  have HC := hid (Sp.Xk_cut hrg hk)
  have HM := hid hm
  have HCL := hid hcl
  have HT := hid hT
  have HE := hid hE
  have HR := hid hr
  rw [hcl]
  obtain ⟨n, hsn⟩ : ∃ n, s.length = n := ⟨_, rfl⟩
  rw [hsn] at hS hn ⊢
  have HSN := hid hsn
  have S0 := hid hS
  have O0 := hid (World.ownsRow_nil w w.heap.size 33 2)
  have B0 := hid (Below.refl w.heap.size w)
  clear hcl hrg hm hT hE hr hS hsn
  go_enter Tryd.func23, Tryd.ntmps23
  go_wp2_with fail
  go_loopg [2, 9, 10] n (fun r bv ov dv wr => ∃ (m j : Nat) (b : Bool) (ps : List (Nat × Bool)) (a1 : Option Addr) (c1 : Nat), m = r ∧ j + m = n ∧ bv = .slice a1 m c1 ∧ dv = .bool b ∧ ps.length ≤ j ∧ Hid (Sl w a1 m c1 (Sp.fn (s.drop j))) ∧ Hid (Sp.sp (Sp.Xk cl kd) fin false s = ps ++ Sp.sp (Sp.Xk cl kd) fin (!b) (s.drop j)) ∧ Hid (wr.ownsRow w.heap.size 33 2 ov ps.length (pcv ps)) ∧ Hid (Below w.heap.size w wr))
  case atStart => exact ⟨n, 0, true, [], ba, bc, rfl, by omega, rfl, rfl, Nat.le_refl _, S0, hid rfl, O0, B0⟩
  case round =>
    obtain ⟨m, j, b, ps, a1, c1, rfl, hj, rfl, rfl, hpl, HS, HP, HO, HB⟩ := hrel
    by_cases hlt : 0 < m
    · have k1 : (0 : Int) < m := by omega
      obtain ⟨D, hD⟩ : ∃ D, s.drop j = D := ⟨_, rfl⟩
      have hDl : D.length = m := by rw [← hD, List.length_drop, HSN.out]; omega
      have hDr : Sp.rl D = D.length := by rw [← hD]; exact Sp.rl_drop s j HR.out
      have hDn := fun q => (show D.drop q = s.drop (j + q) by rw [← hD, List.drop_drop])
      have HDN := hid hDn
      obtain ⟨⟨N, d⟩, hq⟩ : ∃ q, Sp.Xk cl kd D fin = q := ⟨_, rfl⟩
      have hne : D ≠ [] := fun e => by rw [e] at hDl; simp at hDl; omega
      have hp := HC.out.pos D fin hne
      rw [hq, hDl] at hp
      obtain ⟨hp1, hp2⟩ : 1 ≤ N ∧ N ≤ m := hp
      have hsp := Sp.sp_run HC.out fin (!b) (by omega) hDr hq
      have hq' : Sc.nx cl true kd (Sp.fn D) m fin = (N, d) := by
        rw [← hq, ← hDl]
        rfl
      rw [hD] at HS HP
      rw [hsp, HDN.out N] at HP
      have HQ := hid hq'
      obtain ⟨bb, off, rfl, hbl, _⟩ := HS.out.at' hlt
      have T1 := hid (HT.out.below HB.out)
      have E1 := hid (HE.out.below HB.out (Nat.le_refl _))
      have k2 : (0 : Int) ≤ N := by omega
      have k3 : (N : Int) ≤ m := by omega
      have hcap := HS.out.le
      have k4 : (m : Int) ≤ c1 := by omega
      have SL : Hid (Sl w (some ⟨bb, off + N, none⟩) (m - N) (c1 - N) (Sp.fn (s.drop (j + N)))) := by
        by_cases hN : N < m
        · have h := HS.out.cut N hN
          rw [show Sp.fn (s.drop (j + N)) = fun q => Sp.fn D (N + q) from by
            rw [← HDN.out N]
            exact Sp.fn_drop D N]
          exact h
        · exact ⟨by omega, by have := HS.out.mx; omega, fun q => by rw [← HDN.out N, Sp.fn_drop]; exact HS.out.bd _, fun e => absurd e (by simp), fun h0 => by omega⟩
      have SLz : c1 = N → Hid (Sl w (some ⟨bb, off, none⟩) (m - N) 0 (Sp.fn (s.drop (j + N)))) := fun e => ⟨by omega, Nat.zero_le _, fun q => by rw [← HDN.out N, Sp.fn_drop]; exact HS.out.bd _, fun e => absurd e (by simp), fun h0 => by omega⟩
      clear hD hDn hsp hq hq' hne hDr HDN
      go_wp2_with fail
      refine (next_calls (kd : Int) T1.out (HS.out.below HB.out) (by omega) E1.out _).mono ?_
      rintro e w2 ⟨rfl, b2⟩
      rw [HCL.out, HM.out, HQ.out]
      unfold NX
      have O2 := hid (own_below HO.out b2)
      have B2 := hid (HB.out.trans (b2.mono HB.out.size))
      clear b2 HO HB HQ HS T1 E1
      cases b with
      | true =>
        simp only [Bool.not_true, Bool.false_or, Bool.not_not] at HP
        go_wp2_with (at_builtin; refine wpList_append_src rfl _ _ 26 rfl w.heap.size 33 i0 _ 2 16 Tryd.underlying26 hi0 hz0 hz1 hz2 rfl (by omega) _ ps.length (pcv ps) rfl (O2.out.alloc _) (some ⟨w2.heap.size, 0, none⟩) 1 1 [.int .i64 N, .bool d] rfl (src_pc N d 33) (by unfold maxLen; omega) (by omega) (by have := B2.out.size; simp; omega) ?_; intro v4 w4 ho4 hg4 ha4; have O4 := hid ho4; have G4 := hid hg4; clear ho4 hg4 ha4)
        all_goals (
          have B4 := hid ((B2.out.alloc B2.out.size (.cells #[.int .i64 N, .bool d] 33)).grown G4.out (by have := B2.out.size; simp; omega) (fun k hk => (O2.out.lt k hk).1))
          have O5 := hid (show w4.ownsRow w.heap.size 33 2 v4 (ps ++ [(N, d)]).length (pcv (ps ++ [(N, d)])) from by
            rw [← pcv_snoc, List.length_append]
            exact O4.out)
          have E5 : Hid (Sp.sp (Sp.Xk cl kd) fin false s = (ps ++ [(N, d)]) ++ Sp.sp (Sp.Xk cl kd) fin (!d) (s.drop (j + N))) := by
            rw [HP.out, List.append_assoc]
            rfl
          clear O4 G4 O2 B2 HP
          go_wp2_with fail
          go_roundg (m - N)
          case measure => omega
          case rel =>
          first
            | exact ⟨m - N, j + N, d, ps ++ [(N, d)], _, 0, rfl, by omega, rfl, rfl, by simp; omega, SLz (by assumption), E5, O5, B4⟩
            | exact ⟨m - N, j + N, d, ps ++ [(N, d)], _, _, rfl, by omega, rfl, rfl, by simp; omega, SL, E5, O5, B4⟩)
      | false =>
        simp only [Bool.not_false, Bool.true_or, Bool.not_true] at HP
        go_wp2_with (at_builtin; refine wpList_append_src rfl _ _ 26 rfl w.heap.size 33 i0 _ 2 16 Tryd.underlying26 hi0 hz0 hz1 hz2 rfl (by omega) _ ps.length (pcv ps) rfl (O2.out.alloc _) (some ⟨w2.heap.size, 0, none⟩) 1 1 [.int .i64 N, .bool false] rfl (src_pc N false 33) (by unfold maxLen; omega) (by omega) (by have := B2.out.size; simp; omega) ?_; intro v4 w4 ho4 hg4 ha4; have O4 := hid ho4; have G4 := hid hg4; clear ho4 hg4 ha4)
        all_goals (
          have B4 := hid ((B2.out.alloc B2.out.size (.cells #[.int .i64 N, .bool false] 33)).grown G4.out (by have := B2.out.size; simp; omega) (fun k hk => (O2.out.lt k hk).1))
          have O5 := hid (show w4.ownsRow w.heap.size 33 2 v4 (ps ++ [(N, false)]).length (pcv (ps ++ [(N, false)])) from by
            rw [← pcv_snoc, List.length_append]
            exact O4.out)
          have E5 : Hid (Sp.sp (Sp.Xk cl kd) fin false s = (ps ++ [(N, false)]) ++ Sp.sp (Sp.Xk cl kd) fin (!false) (s.drop (j + N))) := by
            rw [HP.out, List.append_assoc]
            rfl
          clear O4 G4 O2 B2 HP
          go_wp2_with fail
          go_roundg (m - N)
          case measure => omega
          case rel =>
          first
            | exact ⟨m - N, j + N, false, ps ++ [(N, false)], _, 0, rfl, by omega, rfl, rfl, by simp; omega, SLz (by assumption), E5, O5, B4⟩
            | exact ⟨m - N, j + N, false, ps ++ [(N, false)], _, _, rfl, by omega, rfl, rfl, by simp; omega, SL, E5, O5, B4⟩)
    · have hm0 : m = 0 := by omega
      have k1 : ¬ (0 : Int) < m := by omega
      have hD : s.drop j = [] := List.drop_eq_nil_of_le (by rw [HSN.out]; omega)
      rw [hD, Sp.sp_nil, List.append_nil] at HP
      clear hD hm0
      go_wp2_with fail
      go_ret
      exact ⟨_, rfl, by rw [HP.out]; exact HO.out, HB.out⟩
set_option maxRecDepth 100000 in
set_option maxHeartbeats 3200000 in
theorem split_no_calls {w : World} {ta a : Option Addr} {tn tc n c : Nat} {L H C : Nat → Int} (kind : Int) (hT : Rs w ta tn tc L H C) (h : ¬ (0 ≤ kind ∧ kind ≤ 3 ∧ Cl.may L H C tn = true)) (fin : Bool) :
    Calls Tryd.prog 10 #[.int .i64 kind, .slice ta tn tc, .slice a n c, .bool fin] w fun e w' => PcOut w [] e w' := by
  have HT := hid hT
  have HN := hid h
  have b0 := (((Below.refl w.heap.size w).alloc (Nat.le_refl _) (.cells #[.int .i64 kind] 3)).alloc (by simp) (.cells #[.slice ta tn tc] 22)).alloc (by simp; omega) (.cells #[.bool fin] 4)
  have B0 := hid b0
  have T0 := hid (hT.below b0)
  clear b0 h hT
  by_cases h0 : kind < 0
  · have FN := hid (show PcOut w [] (.returned (.slice none 0 0)) _ from ⟨_, rfl, World.ownsRow_nil _ _ _ _, B0.out⟩)
    go_enter Tryd.func10, Tryd.ntmps10
    go_wp2_with fail
    go_ret
    exact FN.out
  · by_cases h1 : 3 < kind
    · have FN := hid (show PcOut w [] (.returned (.slice none 0 0)) _ from ⟨_, rfl, World.ownsRow_nil _ _ _ _, B0.out⟩)
      go_enter Tryd.func10, Tryd.ntmps10
      go_wp2_with fail
      go_ret
      exact FN.out
    · have hm : Cl.may L H C tn = false := by
        cases hm : Cl.may L H C tn with
        | false => rfl
        | true => exact absurd ⟨by omega, by omega, hm⟩ HN.out
      go_enter Tryd.func10, Tryd.ntmps10
      go_wp2_with fail
      refine (may_calls ta tn tc L H C _ T0.out).mono ?_
      rintro e w1 ⟨rfl, b1⟩
      rw [hm]
      have FN := hid (show PcOut w [] (.returned (.slice none 0 0)) w1 from ⟨_, rfl, World.ownsRow_nil _ _ _ _, B0.out.trans (b1.mono B0.out.size)⟩)
      clear b1
      go_wp2_with fail
      go_ret
      exact FN.out
/-- What split.Bytes answers: all symbols, or nothing. -/
def SbOut (w : World) (n : Nat) (xs : Pr.Row) (e : Ending) (w' : World) : Prop :=
  ((∃ a c, (∀ x ∈ xs, Sp.isB x = true) ∧ e = .returned (.tuple #[.slice a n c, .bool true]) ∧ Sl w' a n c (Sp.fn xs)) ∨ (∃ a c, (¬ ∀ x ∈ xs, Sp.isB x = true) ∧ e = .returned (.tuple #[.slice a 0 c, .bool false]))) ∧ Below w.heap.size w w'
set_option maxRecDepth 100000 in
set_option maxHeartbeats 3200000 in
theorem sbytes_calls {w : World} {a : Option Addr} {n c : Nat} {xs : Pr.Row} (hX : Ir w a n c xs) (hn : n ≤ 100000) :
    Calls Tryd.prog 17 #[.slice a n c] w fun e w' => SbOut w n xs e w' := by
  obtain ⟨i0, hi0, hz0, hz1, hz2⟩ := info_parts Tryd.info8
  have HX := hid hX
  have HL := hid hX.len
  have hmk := run_make_bytes (P := Tryd.prog) w 37 5 i0 Tryd.underlying37 hi0 hz0 hz1 hz2 n (by omega)
  have R0 := hid (show Bw (w.alloc (.cells (vals (fun _ => 0) n).toArray 5)) w.heap.size n 5 (fun i => if i < 0 then Sp.fn xs i else 0) from Bw.congr (f := fun _ => 0) (World.alloc_heap_new w _) (fun i _ => by rw [if_neg (by omega)]))
  have B0 := hid ((Below.refl w.heap.size w).alloc (Nat.le_refl _) (.cells (vals (fun _ => 0) n).toArray 5))
  obtain ⟨G, hG⟩ : ∃ G, w.heap.size = G := ⟨_, rfl⟩
  obtain ⟨w1, hw1⟩ : ∃ w1, w.alloc (.cells (vals (fun _ => 0) n).toArray 5) = w1 := ⟨_, rfl⟩
  rw [hw1, hG] at R0 B0 hmk
  have HG := hid hG
  clear hX hw1 hG
  go_enter Tryd.func17, Tryd.ntmps17
  go_wp2_with fail
  go_loopg [12] n (fun r iv wr => ∃ j : Nat, r = n - j ∧ j ≤ n ∧ iv = .int .i64 (j : Int) ∧ Hid (∀ i, i < j → Sp.isB (it xs i) = true) ∧ Hid (Bw wr G n 5 (fun i => if i < j then Sp.fn xs i else 0)) ∧ Hid (Below G w wr))
  case atStart => exact ⟨0, rfl, by omega, rfl, hid (fun i h => by omega), R0, B0⟩
  case round =>
    obtain ⟨j, rfl, hj, rfl, HA, HR, HB⟩ := hrel
    by_cases hlt : j < n
    · have k1 : (j : Int) < n := by omega
      have k0 : (0 : Int) ≤ j := by omega
      have e2 : IntKind.i64.wrap ((j : Int) + 1) = j + 1 := i64_in (by omega) (by omega)
      obtain ⟨b, off, rfl, hbl, hc⟩ := (HX.out.below (by rw [HG.out]; exact HB.out)).at' (by omega)
      have p0 := hc j hlt
      have q0 := HR.out.cell hlt
      rw [if_neg (by omega)] at q0
      have f0 := HR.out.fr j
      obtain ⟨x, hx⟩ : ∃ x, it xs j = x := ⟨_, rfl⟩
      rw [hx] at p0
      have HXX := hid hx
      clear hc hx
      go_wp2_with fail
      refine (isMark_calls x _).mono ?_
      rintro e w2 ⟨rfl, rfl⟩
      cases hb : Sp.isB x with
      | false =>
        have FN := hid (show ¬ ∀ y ∈ xs, Sp.isB y = true from fun h => by
          have := h _ (Pr.it_mem (xs := xs) (i := j) (by rw [HL.out]; exact hlt))
          rw [HXX.out, hb] at this
          cases this)
        have GN := hid (show SbOut w n xs (.returned (.tuple #[.slice none 0 0, .bool false])) w2 from ⟨.inr ⟨none, 0, FN.out, rfl⟩, by rw [HG.out]; exact HB.out⟩)
        clear hb
        go_wp2_with fail
        go_ret2
        exact GN.out
      | true =>
        have hbd := Sp.isB_iff.1 hb
        have e3 : IntKind.u8.wrap x = x := u8_sp hbd.1 hbd.2
        have HA2 : Hid (∀ i, i < j + 1 → Sp.isB (it xs i) = true) := fun i h2 => by
          rcases Nat.lt_succ_iff_lt_or_eq.1 h2 with h | rfl
          · exact HA.out i h
          · rw [HXX.out]; exact hb
        have R2 := hid ((HR.out.set j x).congr (g := fun i => if i < j + 1 then Sp.fn xs i else 0) (fun i hi => by
          show (if i = j then x else if i < j then Sp.fn xs i else 0) = _
          by_cases h1 : i = j
          · subst h1
            rw [if_pos rfl, if_pos (by omega), ← HXX.out]
            rfl
          · rw [if_neg h1]
            by_cases h2 : i < j
            · rw [if_pos h2, if_pos (by omega)]
            · rw [if_neg h2, if_neg (by omega)]))
        have B2 := hid (HB.out.setCell (p := ⟨G, j, none⟩) (Nat.le_refl _) (.int .u8 x))
        clear hb HR HB HA
        go_wp2_with fail
        go_roundg (n - (j + 1))
        case measure => omega
        case rel => exact ⟨j + 1, rfl, by omega, by go_num, HA2, R2, B2⟩
    · have hjn : j = n := by omega
      have k1 : ¬ ((j : Int) < n) := by omega
      have hall : ∀ x ∈ xs, Sp.isB x = true := fun x hx => by
        obtain ⟨i, hi, rfl⟩ := List.mem_iff_getElem.1 hx
        have h := HA.out i (by rw [hjn, ← HL.out]; exact hi)
        have e := Pr.it_get hi
        rw [List.getElem?_eq_getElem hi] at e
        rw [Option.some.inj e]
        exact h
      have bd : ∀ i, 0 ≤ Sp.fn xs i ∧ Sp.fn xs i ≤ 255 := fun i => by
        unfold Sp.fn
        by_cases h : i < xs.length
        · rw [List.getD_eq_getElem?_getD, List.getElem?_eq_getElem h]
          exact Sp.isB_iff.1 (hall _ (List.getElem_mem h))
        · rw [List.getD_eq_getElem?_getD, List.getElem?_eq_none (by omega)]
          decide
      have SN := hid ((HR.out.congr (g := Sp.fn xs) (fun i hi => if_pos (by omega))).sl (by unfold maxLen; omega) bd)
      have GN := hid (show SbOut w n xs (.returned (.tuple #[.slice (some ⟨G, 0, none⟩) n n, .bool true])) wr from ⟨.inl ⟨_, _, hall, rfl, SN.out⟩, by rw [HG.out]; exact HB.out⟩)
      clear hjn hall bd HR HA
      go_wp2_with fail
      go_ret2
      exact GN.out
set_option maxRecDepth 100000 in
set_option maxHeartbeats 3200000 in
theorem sdec_calls {w : World} {ta a : Option Addr} {tn tc n c : Nat} {L H C : Nat → Int} {xs : Pr.Row} (kind : Int) (hT : Rs w ta tn tc L H C) (hX : Ir w a n c xs) (hn : n ≤ 100000)
    (hS : Calls Tryd.prog 10 #[.int .i64 kind, .slice ta tn tc, .slice a n c, .bool false] w fun e w' => PcOut w (Sp.cutL (Cl.of L H C tn) (Cl.may L H C tn) kind false xs) e w') :
    Calls Tryd.prog 13 #[.int .i64 kind, .slice ta tn tc, .slice a n c] w fun e w' => e = .returned (.int .i64 (Sp.dsum (Sp.cutL (Cl.of L H C tn) (Cl.may L H C tn) kind false xs) : Nat)) ∧ Below w.heap.size w w' := by
  have hlen := Sp.cutL_len (Cl.of_rg L H C tn) (Cl.may L H C tn) kind false xs
  have htot := Sp.cutL_total (Cl.of_rg L H C tn) (Cl.may L H C tn) kind false xs
  rw [hX.len] at hlen htot
  obtain ⟨ps, hps⟩ : ∃ ps, Sp.cutL (Cl.of L H C tn) (Cl.may L H C tn) kind false xs = ps := ⟨_, rfl⟩
  rw [hps] at hlen htot hS ⊢
  have HS := hid hS
  have hds := Sp.dsum_le_total ps
  clear hps hT hX hS
  go_enter Tryd.func13, Tryd.ntmps13
  go_wp2_with fail
  refine HS.out.mono ?_
  rintro e w1 ⟨v, rfl, o1, b1⟩
  obtain ⟨a1, c1, rfl, p1⟩ := Pc.ofOwn o1
  have HP := hid p1
  have HB := hid b1
  obtain ⟨m, hm⟩ : ∃ m, ps.length = m := ⟨_, rfl⟩
  rw [hm] at HP hlen ⊢
  have B0 := hid (Below.refl w1.heap.size w1)
  clear o1 b1 p1 hm HS
  go_wp2_with fail
  go_loopg [7, 15] m (fun r nv iv wr => ∃ j : Nat, r = m - j ∧ j ≤ m ∧ nv = .int .i64 (Sp.dsum (ps.take j) : Nat) ∧ iv = .int .i64 (j : Int) ∧ Hid (Below w1.heap.size w1 wr))
  case atStart => exact ⟨0, rfl, by omega, rfl, rfl, B0⟩
  case round =>
    obtain ⟨j, rfl, hj, rfl, rfl, HBr⟩ := hrel
    by_cases hlt : j < m
    · have k1 : (j : Int) < m := by omega
      have k0 : (0 : Int) ≤ j := by omega
      have e2 : IntKind.i64.wrap ((j : Int) + 1) = j + 1 := i64_in (by omega) (by omega)
      have hsn := Sp.dsum_snoc (ps.take j) (pt ps j)
      rw [← Sp.take_snoc (pt_get (by rw [HP.out.len]; exact hlt))] at hsn
      have hle := Sp.dsum_take_le ps (j + 1)
      obtain ⟨b, off, rfl, hbl, hc⟩ := (HP.out.below HBr.out).at' (by omega)
      obtain ⟨p0, p1⟩ := hc j hlt
      obtain ⟨⟨N, d⟩, hx⟩ : ∃ x, pt ps j = x := ⟨_, rfl⟩
      rw [hx] at p0 p1 hsn
      simp only at p0 p1 hsn
      obtain ⟨S, hSj⟩ : ∃ S, Sp.dsum (ps.take j) = S := ⟨_, rfl⟩
      obtain ⟨S', hS'⟩ : ∃ S, Sp.dsum (ps.take (j + 1)) = S := ⟨_, rfl⟩
      rw [hS', hSj] at hsn
      rw [hS'] at hle
      rw [hSj]
      have HS' := hid hS'
      have B2 := hid (HBr.out.alloc HBr.out.size (.cells #[.int .i64 (N : Nat), .bool d] 33))
      have z0 : (wr.alloc (.cells #[.int .i64 (N : Nat), .bool d] 33)).cell? ⟨wr.heap.size, 0, none⟩ = some (.int .i64 (N : Nat)) := by rw [World.cell?_alloc_at _ _ _ _ rfl]; rfl
      have z1 : (wr.alloc (.cells #[.int .i64 (N : Nat), .bool d] 33)).cell? ⟨wr.heap.size, 1, none⟩ = some (.bool d) := by rw [World.cell?_alloc_at _ _ _ _ rfl]; rfl
      clear hx hc hSj hS'
      cases d with
      | true =>
        rw [if_pos rfl] at hsn
        have e3 : IntKind.i64.wrap ((S : Int) + (N : Int)) = (S' : Int) := by rw [i64_in (by omega) (by omega)]; omega
        go_wp2_with fail
        go_roundg (m - (j + 1))
        case measure => omega
        case rel => exact ⟨j + 1, rfl, by omega, by rw [HS'.out, hsn]; simp, by go_num, B2⟩
      | false =>
        rw [if_neg (by decide)] at hsn
        obtain rfl : S' = S := by omega
        go_wp2_with fail
        go_roundg (m - (j + 1))
        case measure => omega
        case rel => exact ⟨j + 1, rfl, by omega, by rw [HS'.out], by go_num, B2⟩
    · have hjm : j = m := by omega
      have k1 : ¬ (j : Int) < m := by omega
      have HF := hid (show Sp.dsum (ps.take j) = Sp.dsum ps by rw [List.take_of_length_le (by rw [HP.out.len]; omega)])
      have BF := hid (HB.out.trans (HBr.out.mono HB.out.size))
      clear hjm
      go_wp2_with fail
      go_ret
      exact ⟨ret_int (by rw [HF.out]), BF.out⟩
end Go.Proofs.YtiheagkgpbkkfaaDoor
