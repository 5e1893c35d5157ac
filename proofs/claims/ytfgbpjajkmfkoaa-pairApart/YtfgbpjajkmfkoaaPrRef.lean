/-
  Walks of the reference's Same and Text.
-/
import Derived.Test.YtfgbpjajkmfkoaaPrMap
import Derived.Deep.QuietTactic
import Derived.BigQuiet
namespace Go.Proofs.Ytfgbpjajkmfkoaa
open Go.RowKit Go.Maps
open Pr (it)
set_option linter.unusedVariables false

set_option maxRecDepth 100000 in
set_option maxHeartbeats 3200000 in
theorem same_calls {w : World} {a b : Option Addr} {n c m d : Nat} {xs ys : Pr.Row} (R : Ir w a n c xs) (Q : Ir w b m d ys) :
    Calls Try.prog 19 #[.slice a n c, .slice b m d] w fun e w' => Says e (xs = ys) ∧ Below w.heap.size w w' := by
  have hl := R.len
  have hk := Q.len
  have hn : n ≤ 9223372036854775807 := by have := R.le; have := R.mx; unfold maxLen at this; omega
  have RW := hid R
  have QW := hid Q
  clear R Q
  by_cases hnm : n = m
  · subst hnm
    go_enter Try.func19, Try.ntmps19
    go_wp2_with fail
    go_loopg [13] n (fun r iv wr => ∃ j : Nat, r = n - j ∧ j ≤ n ∧ iv = .int .i64 j ∧ Hid (∀ i, i < j → it xs i = it ys i) ∧ Hid (Below w.heap.size w wr))
    case atStart => exact ⟨0, rfl, by omega, rfl, hid (fun i hi => by omega), hid (Below.refl _ _)⟩
    case round =>
      obtain ⟨j, rfl, hj, rfl, HA, HB⟩ := hrel
      by_cases hlt : j < n
      · have l0 : (0 : Int) ≤ j := by omega
        have l1 : (j : Int) < n := by omega
        have l2 : IntKind.i64.wrap ((j : Int) + 1) = j + 1 := i64_in (by omega) (by omega)
        obtain ⟨b1, o1, rfl, hb1, hc1⟩ := (RW.out.below HB.out).at' (by omega)
        obtain ⟨b2, o2, rfl, hb2, hc2⟩ := (QW.out.below HB.out).at' (by omega)
        have q1 := hc1 j hlt
        have q2 := hc2 j hlt
        obtain ⟨x, hx⟩ : ∃ x, it xs j = x := ⟨_, rfl⟩
        obtain ⟨y, hy⟩ : ∃ x, it ys j = x := ⟨_, rfl⟩
        rw [hx] at q1
        rw [hy] at q2
        have HX := hid hx
        have HY := hid hy
        clear hc1 hc2 hx hy
        by_cases hs : x = y
        · subst hs
          go_wp2_with fail
          go_quiet (fail)
          have HB2 := hid (below_drewN HB.out nq)
          go_wp2_with fail
          go_roundg (n - (j + 1))
          case measure => omega
          case rel => exact ⟨j + 1, rfl, by omega, by go_num, hid (fun i hi => by
            by_cases h : i < j
            · exact HA.out i h
            · obtain rfl : i = j := by omega
              rw [HX.out, HY.out]), HB2⟩
        · have e1 : (x == y) = false := by simpa using hs
          have HN := hid (show ¬ xs = ys from fun h => hs (by rw [← HX.out, ← HY.out, h]))
          go_wp2_with fail
          go_quiet (fail)
          have HB2 := hid (below_drewN HB.out nq)
          go_wp2_with fail
          go_ret
          exact ⟨Says.no HN.out, HB2.out⟩
      · have l1 : ¬ (j : Int) < n := by omega
        have HN := hid (show xs = ys from Pr.it_ext (by omega) (fun i hi => HA.out i (by omega)))
        go_wp2_with fail
        go_ret
        exact ⟨Says.yes HN.out, HB.out⟩
  · have e1 : ((n : Int) == (m : Int)) = false := by simpa using fun h => hnm (by omega)
    have HN := hid (show ¬ xs = ys from fun h => hnm (by rw [← hl, ← hk, h]))
    go_enter Try.func19, Try.ntmps19
    go_wp2_with fail
    go_ret
    exact ⟨Says.no HN.out, Below.refl _ _⟩

/-- What Text answers. -/
def TxOut (ts : Vc.Toks) (xs : Pr.Row) (e : Ending) : Prop :=
  (Pr.Toks ts xs ∧ ∃ s, e = .returned (.tuple #[.string s, .bool true]) ∧ by_ s = Pr.cat ts xs) ∨ (¬ Pr.Toks ts xs ∧ e = .returned (.tuple #[.string ⟨#[]⟩, .bool false]))
theorem take_snoc {xs : Pr.Row} {j : Nat} (h : j < xs.length) : xs.take (j + 1) = xs.take j ++ [it xs j] := by
  rw [List.take_add_one, Pr.it_get h]
  rfl

set_option maxRecDepth 100000 in
set_option maxHeartbeats 6400000 in
theorem text_calls {w : World} {a am az ar : Option Addr} {n c nm cm ns cs k d : Nat} {ts : Vc.Toks} {ms : List Mg4} {sp : Vc.Sps} {xs : Pr.Row} (V : Vo w a n c am nm cm az ns cs ts ms sp) (R : Ir w ar k d xs) (hz : ∀ i, i < n → (at_ ts i).size ≤ 1000000) (hk : k ≤ 1000000) :
    Calls Try.prog 22 #[.agg #[.slice a n c, .slice am nm cm, .slice az ns cs], .slice ar k d] w fun e w' => TxOut ts xs e ∧ Below w.heap.size w w' := by
  have hl := V.T.len
  have hlr := R.len
  have B0 := hid ((Below.refl w.heap.size w).alloc (Nat.le_refl _) (.cells #[.slice a n c, .slice am nm cm, .slice az ns cs] 26))
  have X0 := hid (Bx3.new w 26 (.slice a n c) (.slice am nm cm) (.slice az ns cs))
  have TW := hid V.T
  have RW := hid R
  have HZ := hid hz
  clear V R hz
  go_enter Try.func22, Try.ntmps22
  go_wp2_with fail
  go_loopg [6, 10] k (fun r sv iv wr => ∃ (j : Nat) (s : ByteArray), r = k - j ∧ j ≤ k ∧ iv = .int .i64 j ∧ sv = .string s ∧ Hid (∀ i, i < j → Vc.Is ts (it xs i)) ∧ Hid (by_ s = Pr.cat ts (xs.take j)) ∧ Hid (s.size ≤ j * 1000000) ∧ Hid (Bx3 wr w.heap.size 26 (.slice a n c) (.slice am nm cm) (.slice az ns cs)) ∧ Hid (Below w.heap.size w wr))
  case atStart => exact ⟨0, ⟨#[]⟩, rfl, by omega, rfl, rfl, hid (fun i hi => by omega), hid rfl, hid (Nat.le_refl _), X0, B0⟩
  case round =>
    obtain ⟨j, s, rfl, hj, rfl, rfl, HA, HS, HL, HX, HB⟩ := hrel
    by_cases hlt : j < k
    · have l0 : (0 : Int) ≤ j := by omega
      have l1 : (j : Int) < k := by omega
      have l2 : IntKind.i64.wrap ((j : Int) + 1) = j + 1 := i64_in (by omega) (by omega)
      obtain ⟨b1, o1, rfl, hb1, hc1⟩ := (RW.out.below HB.out).at' (by omega)
      have q1 := hc1 j hlt
      obtain ⟨x, hx⟩ : ∃ x, it xs j = x := ⟨_, rfl⟩
      rw [hx] at q1
      have HXx := hid hx
      clear hc1 hx
      have c0 := HX.out.cell0
      by_cases g0 : x < 0
      · have HN := hid (show ¬ Pr.Toks ts xs from fun h => by
          have := (h _ (Pr.it_mem (xs := xs) (i := j) (by omega))).1
          rw [HXx.out] at this; omega)
        go_wp2_with fail
        go_quiet (fail)
        have HB2 := hid (below_drewN HB.out nq)
        go_wp2_with fail
        go_ret2
        exact ⟨.inr ⟨HN.out, rfl⟩, HB2.out⟩
      have d0 : decide (x < (0 : Int)) = false := decide_eq_false g0
      by_cases g1 : (n : Int) ≤ x
      · have HN := hid (show ¬ Pr.Toks ts xs from fun h => by
          have := (h _ (Pr.it_mem (xs := xs) (i := j) (by omega))).2.1
          rw [HXx.out] at this; omega)
        go_wp2_with fail
        go_quiet (fail)
        have HB2 := hid (below_drewN HB.out nq)
        go_wp2_with fail
        go_ret2
        exact ⟨.inr ⟨HN.out, rfl⟩, HB2.out⟩
      have d1 : decide ((n : Int) ≤ x) = false := decide_eq_false g1
      obtain ⟨q, rfl⟩ : ∃ q : Nat, x = q := ⟨x.toNat, by omega⟩
      have hq : q < n := by omega
      have f0 : (0 : Int) ≤ q := by omega
      have f1 : (q : Int) < n := by omega
      have f2 : ¬ n ≤ q := by omega
      obtain ⟨b2, o2, rfl, hb2, hc2⟩ := (TW.out.below HB.out).at' (by omega)
      have q2 := hc2 q hq
      have hzq := HZ.out q hq
      obtain ⟨t, ht⟩ : ∃ t, at_ ts q = t := ⟨_, rfl⟩
      rw [ht] at q2 hzq
      have HT := hid ht
      clear hc2 ht
      by_cases hz : t.size = 0
      · have e1 := (ba_empty hz).1
        have e2 := (ba_empty hz).2
        have HN := hid (show ¬ Pr.Toks ts xs from fun h => by
          have := (h _ (Pr.it_mem (xs := xs) (i := j) (by omega))).2.2
          rw [HXx.out, Int.toNat_natCast, HT.out] at this; exact this hz)
        clear hz
        go_wp2_with fail
        go_quiet (fail)
        have HB2 := hid (below_drewN HB.out nq)
        go_wp2_with fail
        go_ret2
        exact ⟨.inr ⟨HN.out, rfl⟩, HB2.out⟩
      · have e1 := (ba_full hz).1
        have e2 := (ba_full hz).2
        have HI := hid (show Vc.Is ts (it xs j) from by rw [HXx.out]; exact ⟨f0, by omega, by rw [Int.toNat_natCast, HT.out]; exact hz⟩)
        have hsz : ¬ 9223372036854775807 < s.size + t.size := by
          have := HL.out
          have : j * 1000000 ≤ 1000000 * 1000000 := Nat.mul_le_mul (by omega) (Nat.le_refl _)
          omega
        have HS2 := hid (show by_ (s ++ t) = Pr.cat ts (xs.take (j + 1)) by
          rw [by_append, HS.out, take_snoc (by omega)]
          unfold Pr.cat
          rw [List.flatMap_append, List.flatMap_cons, List.flatMap_nil, List.append_nil, HXx.out]
          unfold Vc.tok
          rw [Int.toNat_natCast, HT.out])
        have HL2 := hid (show (s ++ t).size ≤ (j + 1) * 1000000 by
          have := HL.out
          rw [ByteArray.size_append, Nat.add_mul]
          omega)
        clear hz
        have X3 := hid (fun d => HX.out.below (below_drewN (Below.refl _ _) d) HX.out.lt)
        have B3 := hid (fun d => below_drewN HB.out d)
        go_wp2_with fail
        go_quiet (fail)
        have Xq := hid (X3.out nq)
        have Bq := hid (B3.out nq)
        have z1 : (wr.drewN nq).cell? ⟨b1, o1 + j, none⟩ = some (.int .i64 (q : Int)) := q1
        have z2 : (wr.drewN nq).cell? ⟨b2, o2 + q, none⟩ = some (.string t) := q2
        obtain ⟨w3, hw3⟩ : ∃ w3, wr.drewN nq = w3 := ⟨_, rfl⟩
        rw [hw3] at Xq Bq z1 z2 ⊢
        clear hw3 X3 B3 HX HB q1 q2 c0
        have c0 := Xq.out.cell0
        have X5 := hid (fun d => Xq.out.below (below_drewN (Below.refl _ _) d) Xq.out.lt)
        have B5 := hid (fun d => below_drewN Bq.out d)
        go_wp2_with fail
        go_quiet (fail)
        have X6 := hid (X5.out nq)
        have B6 := hid (B5.out nq)
        go_wp2_with fail
        go_roundg (k - (j + 1))
        case measure => omega
        case rel => exact ⟨j + 1, s ++ t, rfl, by omega, by go_num, rfl, hid (fun i hi => by
          by_cases h : i < j
          · exact HA.out i h
          · obtain rfl : i = j := by omega
            exact HI.out), HS2, HL2, X6, B6⟩
    · have l1 : ¬ (j : Int) < k := by omega
      have HN := hid (show Pr.Toks ts xs from fun x hx => by
        obtain ⟨i, hi, e⟩ := List.mem_iff_getElem.1 hx
        have e2 : it xs i = x := by simp [it, hi, e]
        rw [← e2]
        exact HA.out i (by omega))
      have HE := hid (show by_ s = Pr.cat ts xs by rw [HS.out, List.take_of_length_le (by omega)])
      go_wp2_with fail
      go_ret2
      exact ⟨.inl ⟨HN.out, s, rfl, HE.out⟩, HB.out⟩
end Go.Proofs.Ytfgbpjajkmfkoaa
