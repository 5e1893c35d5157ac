/-
  The reference's Decided, Rest, Join, Same; the law's great.
-/
import Derived.Test.YtiheagkgpbkkfaaDoorSpR2
import Derived.Deep.QuietTactic
import Derived.BigQuiet
import Derived.Laws.StructEq
namespace Go.Proofs.YtiheagkgpbkkfaaDoor
open Go.RowKit
set_option linter.unusedVariables false
open Pr (it)
namespace Sp
theorem dsum_snoc : ∀ (ps : List (Nat × Bool)) (p : Nat × Bool), dsum (ps ++ [p]) = dsum ps + (if p.2 = true then p.1 else 0)
  | [], p => by simp [dsum]
  | q :: ps, p => by
    have := dsum_snoc ps p
    simp only [List.cons_append, dsum] at this ⊢
    omega
theorem dsum_le_total : ∀ ps : List (Nat × Bool), dsum ps ≤ total ps
  | [] => Nat.le_refl _
  | p :: ps => by
    have := dsum_le_total ps
    unfold dsum total
    split <;> omega
theorem dsum_take_le (ps : List (Nat × Bool)) (j : Nat) : dsum (ps.take j) ≤ dsum ps := by
  refine dsum_le _ _ (fun i p h _ => ?_)
  have hi : i < (ps.take j).length := (List.getElem?_eq_some_iff.1 h).1
  rw [List.length_take] at hi
  rw [List.getElem?_take_of_lt (by omega)] at h
  exact h
theorem take_snoc {α : Type} {l : List α} {x : α} {j : Nat} (h : l[j]? = some x) : l.take (j + 1) = l.take j ++ [x] := by
  rw [List.take_add_one, h]
  rfl
theorem cutL_total {cl : Int → Int} (hr : ∀ p, 0 ≤ cl p ∧ cl p ≤ 4) (may : Bool) (kind : Int) (fin : Bool) (xs : List Int) : total (cutL cl may kind fin xs) ≤ xs.length := by
  unfold cutL
  split
  · rename_i h
    exact Nat.le_of_eq (sp_total (Xk_cut hr (by omega)) fin _ false xs (Nat.le_refl _))
  · exact Nat.zero_le _
/-- The bytes at a text's end begin behind its last mark. -/
theorem lastRun_from : ∀ (xs : List Int) (f : Nat), f ≤ xs.length → (∀ i, f ≤ i → i < xs.length → isB (it xs i) = true) → (f = 0 ∨ isB (it xs (f - 1)) = false) → lastRun xs = xs.drop f
  | [], f, _, _, _ => by simp [lastRun]
  | x :: l, 0, _, h, _ => by
    have hall : rl (x :: l) = (x :: l).length := by
      have hle := rl_le (x :: l)
      apply Classical.byContradiction
      intro hne
      have hs := rl_stop (l := x :: l) (by omega)
      rw [h (rl (x :: l)) (Nat.zero_le _) (by omega)] at hs
      cases hs
    rw [lastRun_all hall]
    rfl
  | x :: l, f + 1, hf, h, hm => by
    have hm := hm.resolve_left (by omega)
    rw [Nat.add_sub_cancel] at hm
    have hne : ¬ rl (x :: l) = (x :: l).length := fun e => by
      have := rl_it (l := x :: l) (i := f) (by rw [e]; simp only [List.length_cons] at hf ⊢; omega)
      rw [this] at hm
      cases hm
    conv => lhs; unfold lastRun
    rw [if_neg hne, List.drop_succ_cons]
    refine lastRun_from l f (by simpa using hf) (fun i h1 h2 => h (i + 1) (by omega) (by simp only [List.length_cons]; omega)) ?_
    cases f with
    | zero => exact .inl rfl
    | succ f => exact .inr hm
end Sp
set_option maxRecDepth 100000 in
set_option maxHeartbeats 3200000 in
theorem rdecided_calls {w : World} {ta a : Option Addr} {tn tc n c : Nat} {L H C : Nat → Int} {xs : Pr.Row} (kind : Int) (hT : Rs w ta tn tc L H C) (hX : Ir w a n c xs) (hn : n ≤ 100000) :
    Calls Tryd.prog 14 #[.int .i64 kind, .slice ta tn tc, .slice a n c] w fun e w' => e = .returned (.int .i64 (Sp.dsum (Sp.cutL (Cl.of L H C tn) (Cl.may L H C tn) kind false xs) : Nat)) ∧ Below w.heap.size w w' := by
  have HT := hid hT
  have HX := hid hX
  have hlen := Sp.cutL_len (Cl.of_rg L H C tn) (Cl.may L H C tn) kind false xs
  have htot := Sp.cutL_total (Cl.of_rg L H C tn) (Cl.may L H C tn) kind false xs
  rw [hX.len] at hlen htot
  have hS := rsplit_calls kind hT hX false hn
  obtain ⟨ps, hps⟩ : ∃ ps, Sp.cutL (Cl.of L H C tn) (Cl.may L H C tn) kind false xs = ps := ⟨_, rfl⟩
  rw [hps] at hlen htot hS ⊢
  have HS := hid hS
  have hds := Sp.dsum_le_total ps
  clear hps hT hX hS
  go_enter Tryd.func14, Tryd.ntmps14
  go_wp2_with fail
  refine HS.out.mono ?_
  rintro e w1 ⟨v, rfl, o1, b1⟩
  obtain ⟨a1, c1, rfl, p1⟩ := Pc.ofOwn o1
  have HP := hid p1
  have HB := hid b1
  obtain ⟨m, hm⟩ : ∃ m, ps.length = m := ⟨_, rfl⟩
  rw [hm] at HP hlen ⊢
  clear o1 b1 p1 hm HS
  go_wp2_with fail
  go_loopg [7, 16] m (fun r nv iv wr => ∃ j : Nat, r = m - j ∧ j ≤ m ∧ nv = .int .i64 (Sp.dsum (ps.take j) : Nat) ∧ iv = .int .i64 (j : Int) ∧ wr = w1)
  case atStart => exact ⟨0, rfl, by omega, rfl, rfl, rfl⟩
  case round =>
    obtain ⟨j, rfl, hj, rfl, rfl, rfl⟩ := hrel
    by_cases hlt : j < m
    · have k1 : (j : Int) < m := by omega
      have k0 : (0 : Int) ≤ j := by omega
      have e2 : IntKind.i64.wrap ((j : Int) + 1) = j + 1 := i64_in (by omega) (by omega)
      have hsn := Sp.dsum_snoc (ps.take j) (pt ps j)
      rw [← Sp.take_snoc (pt_get (by rw [HP.out.len]; exact hlt))] at hsn
      have hle := Sp.dsum_take_le ps (j + 1)
      obtain ⟨b, off, rfl, hbl, hc⟩ := HP.out.at' (by omega)
      obtain ⟨p0, p1⟩ := hc j hlt
      obtain ⟨⟨N, d⟩, hx⟩ : ∃ x, pt ps j = x := ⟨_, rfl⟩
      rw [hx] at p0 p1 hsn
      simp only at p0 p1 hsn
      obtain ⟨S, hSj⟩ : ∃ S, Sp.dsum (ps.take j) = S := ⟨_, rfl⟩
      obtain ⟨S', hS'⟩ : ∃ S, Sp.dsum (ps.take (j + 1)) = S := ⟨_, rfl⟩
      rw [hS', hSj] at hsn
      rw [hS'] at hle
      rw [hSj]
      have HS' := hid hS'
      clear hx hc hSj hS'
      cases d with
      | true =>
        rw [if_pos rfl] at hsn
        have e3 : IntKind.i64.wrap ((S : Int) + (N : Int)) = (S' : Int) := by rw [i64_in (by omega) (by omega)]; omega
        go_wp2_with fail
        go_roundg (m - (j + 1))
        case measure => omega
        case rel => exact ⟨j + 1, rfl, by omega, by rw [HS'.out, hsn]; simp, by go_num, rfl⟩
      | false =>
        rw [if_neg (by decide)] at hsn
        obtain rfl : S' = S := by omega
        go_wp2_with fail
        go_roundg (m - (j + 1))
        case measure => omega
        case rel => exact ⟨j + 1, rfl, by omega, by rw [HS'.out], by go_num, rfl⟩
    · have hjm : j = m := by omega
      have k1 : ¬ (j : Int) < m := by omega
      have HF := hid (show Sp.dsum (ps.take j) = Sp.dsum ps by rw [List.take_of_length_le (by rw [HP.out.len]; omega)])
      clear hjm
      go_wp2_with fail
      go_ret
      exact ⟨ret_int (by rw [HF.out]), HB.out⟩
set_option maxRecDepth 100000 in
set_option maxHeartbeats 3200000 in
theorem rrest_calls {w : World} {a : Option Addr} {n c : Nat} {xs : Pr.Row} (hX : Ir w a n c xs) (hn : n ≤ 100000) :
    Calls Tryd.prog 20 #[.slice a n c] w fun e w' => e = .returned (.string (str (Sp.fn (Sp.lastRun xs)) (Sp.lastRun xs).length)) ∧ Below w.heap.size w w' := by
  have HX := hid hX
  have HL := hid hX.len
  clear hX
  go_enter Tryd.func20, Tryd.ntmps20
  go_wp2_with fail
  go_loopg [3, 7] n (fun r fv iv wr => ∃ j f : Nat, r = n - j ∧ j ≤ n ∧ f ≤ j ∧ fv = .int .i64 (f : Int) ∧ iv = .int .i64 (j : Int) ∧ Hid (∀ i, f ≤ i → i < j → Sp.isB (it xs i) = true) ∧ Hid (f = 0 ∨ Sp.isB (it xs (f - 1)) = false) ∧ wr = w)
  case atStart => exact ⟨0, 0, rfl, by omega, Nat.le_refl _, rfl, rfl, hid (fun i h1 h2 => by omega), hid (.inl rfl), rfl⟩
  case round =>
    obtain ⟨j, f, rfl, hj, hf, rfl, rfl, HA, HM, rfl⟩ := hrel
    by_cases hlt : j < n
    · have k1 : (j : Int) < n := by omega
      have k0 : (0 : Int) ≤ j := by omega
      have e2 : IntKind.i64.wrap ((j : Int) + 1) = j + 1 := i64_in (by omega) (by omega)
      obtain ⟨b, off, rfl, hbl, hc⟩ := HX.out.at' (by omega)
      have p0 := hc j hlt
      obtain ⟨x, hx⟩ : ∃ x, it xs j = x := ⟨_, rfl⟩
      rw [hx] at p0
      have HXX := hid hx
      clear hc hx
      by_cases hlo : x < 0
      · have HB := hid (show Sp.isB x = false by unfold Sp.isB; simp; omega)
        go_wp2_with fail
        go_roundg (n - (j + 1))
        case measure => omega
        case rel => exact ⟨j + 1, j + 1, rfl, by omega, Nat.le_refl _, by go_num, by go_num, hid (fun i h1 h2 => by omega), hid (.inr (by rw [Nat.add_sub_cancel, HXX.out]; exact HB.out)), rfl⟩
      · by_cases hhi : 255 < x
        · have HB := hid (show Sp.isB x = false by unfold Sp.isB; simp; omega)
          go_wp2_with fail
          go_roundg (n - (j + 1))
          case measure => omega
          case rel => exact ⟨j + 1, j + 1, rfl, by omega, Nat.le_refl _, by go_num, by go_num, hid (fun i h1 h2 => by omega), hid (.inr (by rw [Nat.add_sub_cancel, HXX.out]; exact HB.out)), rfl⟩
        · have HB := hid (show Sp.isB x = true from Sp.isB_iff.2 ⟨by omega, by omega⟩)
          have HA2 : Hid (∀ i, f ≤ i → i < j + 1 → Sp.isB (it xs i) = true) := fun i h1 h2 => by
            rcases Nat.lt_succ_iff_lt_or_eq.1 h2 with h | rfl
            · exact HA.out i h1 h
            · rw [HXX.out]; exact HB.out
          go_wp2_with fail
          go_roundg (n - (j + 1))
          case measure => omega
          case rel => exact ⟨j + 1, f, rfl, by omega, by omega, rfl, by go_num, HA2, HM, rfl⟩
    · obtain rfl : j = n := by omega
      have k1 : ¬ (j : Int) < j := by omega
      have hl := Sp.lastRun_from xs f (by rw [HL.out]; exact hf) (fun i h1 h2 => HA.out i h1 (by rw [← HL.out]; exact h2)) HM.out
      have hb := Sp.lastRun_bytes xs
      rw [hl] at hb
      have hrun : Sp.run (xs.drop f) = xs.drop f := by unfold Sp.run; rw [hb, List.take_of_length_le (Nat.le_refl _)]
      have h := sprun_calls HX.out f hf hn
      rw [hrun, hb] at h
      have HR := hid h
      have HE := hid hl
      clear h hl hb hrun
      go_wp2_with fail
      refine HR.out.mono ?_
      rintro e w1 ⟨rfl, b1⟩
      have HB := hid b1
      clear b1
      go_wp2_with fail
      go_ret
      exact ⟨by rw [HE.out, List.length_drop]; rfl, HB.out⟩
theorem Tryd.infoIn : (Tryd.prog.info? 3).map (fun i => (i.zero, i.size, i.bytes)) = some (some (.int .i64 0), 1, 8) := by kernel_rfl
set_option maxRecDepth 100000 in
set_option maxHeartbeats 3200000 in
theorem sjoin_calls {w : World} {a b : Option Addr} {n c m d : Nat} {xs ys : Pr.Row} (hX : Ir w a n c xs) (hY : Ir w b m d ys) (hn : n ≤ 100000) (hm : m ≤ 100000) :
    Calls Tryd.prog 15 #[.slice a n c, .slice b m d] w fun e w' => ∃ v, e = .returned v ∧ w'.ownsRow w.heap.size 3 1 v (n + m) (iv (xs ++ ys)) ∧ Below w.heap.size w w' := by
  obtain ⟨i0, hi0, hz0, hz1, hz2⟩ := info_parts Tryd.infoIn
  have O0 := hid (own_empty (w := w) (base := w.heap.size) (e := 3) (size := 1) w.heap.size rfl (Nat.le_refl _))
  have b0 := (Below.refl w.heap.size w).alloc (Nat.le_refl _) (.cells #[] 3)
  have B0 := hid b0
  have HX := hid (hX.below b0)
  have HY := hid hY
  clear hX hY b0
  go_enter Tryd.func15, Tryd.ntmps15
  go_wp2_with (at_builtin; first
    | (refine wpList_append_src rfl _ _ 23 rfl w.heap.size 3 i0 _ 1 8 Tryd.underlying23 hi0 hz0 hz1 hz2 rfl (by omega) _ 0 [] rfl O0.out a n c (iv xs) rfl HX.out.src (by unfold maxLen; omega) (by omega) B0.out.size ?_
       intro v4 w4 ho4 hg4 ha4
       have O4 := hid ho4
       have B4 := hid (B0.out.grown hg4 B0.out.size (fun k hk => (O0.out.lt k hk).1))
       have Y4 := hid (HY.out.below B4.out)
       clear ho4 hg4 ha4)
    | (refine wpList_append_src rfl _ _ 23 rfl w.heap.size 3 i0 _ 1 8 Tryd.underlying23 hi0 hz0 hz1 hz2 rfl (by omega) _ (0 + n) ([] ++ iv xs) rfl O4.out b m d (iv ys) rfl Y4.out.src (by unfold maxLen; omega) (by omega) B4.out.size ?_
       intro v5 w5 ho5 hg5 ha5
       have O5 := hid ho5
       have B5 := hid (B4.out.grown hg5 B4.out.size (fun k hk => (O4.out.lt k hk).1))
       clear ho5 hg5 ha5))
  go_ret
  refine ⟨_, rfl, ?_, B5.out⟩
  have h := O5.out
  rw [Nat.zero_add, List.nil_append, iv_append] at h
  exact h
theorem Tryd.stoodPc : Tryd.prog.stoodInHeld 33 = false := by kernel_rfl
theorem Tryd.fieldsPc : Tryd.prog.underlying 33 = some (.struct (Tryd.prog.fieldsOf 33)) := by kernel_rfl
theorem Tryd.neqPc (x : Int) (d : Bool) (w : World) : (binOp .neq 33 (.agg #[.int .i64 x, .bool d]) (.agg #[.int .i64 x, .bool d])).run Tryd.prog w = .ok (.bool false) w := by
  rw [run_neq_struct, run_equalIn_agg w _ _ _ _ Tryd.fieldsPc Tryd.stoodPc]
  simp [Program.fieldsOf, Tryd.underlying33, Tryd.underlying3, Tryd.underlying4, Op.eqFields, go_sem]
set_option maxRecDepth 100000 in
set_option maxHeartbeats 3200000 in
theorem psame_yes {w : World} {a b : Option Addr} {n ca cb : Nat} {xs : List (Nat × Bool)} (h1 : Pc w a n ca xs) (h2 : Pc w b n cb xs) (hn : n ≤ 1048576) :
    Calls Tryd.prog 11 #[.slice a n ca, .slice b n cb] w fun e w' => e = .returned (.bool true) ∧ Below w.heap.size w w' := by
  have H1 := hid h1
  have H2 := hid h2
  clear h1 h2
  go_enter Tryd.func11, Tryd.ntmps11
  go_wp2_with fail
  go_loopg [13] n (fun k iv wr => ∃ j d : Nat, k = n - j ∧ j ≤ n ∧ iv = .int .i64 j ∧ wr = w.drewN d)
  case atStart => exact ⟨0, 0, rfl, by omega, rfl, rfl⟩
  case round =>
    obtain ⟨j, d, rfl, hj, rfl, rfl⟩ := hrel
    by_cases hlt : j < n
    · have k1 : (j : Int) < n := by omega
      have k0 : (0 : Int) ≤ j := by omega
      have e2 : IntKind.i64.wrap ((j : Int) + 1) = j + 1 := i64_in (by omega) (by omega)
      obtain ⟨b1, o1, rfl, _, c1⟩ := H1.out.at' (by omega)
      obtain ⟨b2, o2, rfl, _, c2⟩ := H2.out.at' (by omega)
      obtain ⟨q1, p1⟩ := c1 j hlt
      obtain ⟨q2, p2⟩ := c2 j hlt
      obtain ⟨⟨N, dd⟩, hy⟩ : ∃ y, pt xs j = y := ⟨_, rfl⟩
      rw [hy] at q1 q2 p1 p2
      simp only at q1 q2 p1 p2
      have hne := Tryd.neqPc (N : Int) dd
      clear c1 c2 hy
      go_wp2_with fail
      go_quiet (fail)
      go_wp2_with fail
      go_roundg (n - (j + 1))
      case measure => omega
      case rel => exact ⟨j + 1, d + nq, rfl, by omega, by go_num, rfl⟩
    · have k1 : ¬ (j : Int) < n := by omega
      have HB := hid (below_drewN (Below.refl w.heap.size w) d)
      go_wp2_with fail
      go_ret
      exact ⟨rfl, HB.out⟩
/-- Is more than is gone through? -/
def greatP (tn n : Nat) : Bool := decide (80 < tn ∨ 120 < n)
set_option maxRecDepth 100000 in
theorem pgreat_calls {w : World} {ta a : Option Addr} {tn tc n c : Nat} (h1 : tn ≤ maxLen) (h2 : n ≤ maxLen) :
    Calls Tryd.prog 8 #[.slice ta tn tc, .slice a n c] w fun e w' => e = .returned (.bool (greatP tn n)) ∧ w' = w := by
  unfold maxLen at h1 h2
  go_enter Tryd.func8, Tryd.ntmps8
  by_cases ht : 80 < tn
  · have k1 : (80 : Int) < tn := by omega
    have HG := hid (show greatP tn n = true from decide_eq_true (.inl ht))
    go_wp2_with fail
    go_ret
    exact ⟨ret_bool HG.out.symm, rfl⟩
  · have k1 : ¬ (80 : Int) < tn := by omega
    by_cases hb : 120 < n
    · have k2 : (120 : Int) < n := by omega
      have HG := hid (show greatP tn n = true from decide_eq_true (.inr hb))
      go_wp2_with fail
      go_ret
      exact ⟨ret_bool HG.out.symm, rfl⟩
    · have k2 : ¬ (120 : Int) < n := by omega
      have HG := hid (show greatP tn n = false from decide_eq_false (fun h => h.elim ht hb))
      go_wp2_with fail
      go_ret
      exact ⟨ret_bool HG.out.symm, rfl⟩
end Go.Proofs.YtiheagkgpbkkfaaDoor
