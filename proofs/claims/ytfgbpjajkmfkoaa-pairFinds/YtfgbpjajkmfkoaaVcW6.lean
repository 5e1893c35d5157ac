/-
  Walk of vocab.numbersOf.
-/
import Derived.Test.YtfgbpjajkmfkoaaVcW5
import Derived.Test.YtfgbpjajkmfkoaaVcNm
namespace Go.Proofs.Ytfgbpjajkmfkoaa
open Go.RowKit Go.Maps
set_option linter.unusedVariables false

/-- The map of the tokens' numbers, in memory. -/
def NumsIn (w : World) (M : Nat) (ts : Vc.Toks) (j : Nat) : Prop :=
  ∃ (m : Nat) (D : DataW Unit), m ≤ j ∧ w.ownsMap Try.prog 9 (plainElem Try.prog 3) M m D ∧ Vc.Nm ts j D

theorem wf_small (j : Nat) (h : j ≤ 4096) : (Lit.int .i64 (j : Int)).wf = true := by
  simp only [Lit.wf, Bool.and_eq_true, decide_eq_true_eq]
  constructor
  · exact Int.le_trans (by decide) (Int.natCast_nonneg j)
  · exact Int.le_trans (Int.ofNat_le.2 h) (by decide)

set_option maxRecDepth 100000 in
set_option maxHeartbeats 3200000 in
theorem numbersOf_calls {w : World} {a : Option Addr} {n c : Nat} {ts : Vc.Toks} (V : Ts w a n c ts) (hn : n ≤ 4096) (hz : ∀ i, i < n → (at_ ts i).size ≤ maxLen) :
    Calls Try.prog 42 #[.slice a n c] w fun e w' => e = .returned (.map (some w.heap.size)) ∧ NumsIn w' w.heap.size ts n ∧ Below w.heap.size w w' := by
  have hl := V.len
  have TW := hid V
  have HZ := hid hz
  clear V hz
  have hmm := @run_makeMap Try.prog
  have HO := hid (World.ownsMap_made w Try.prog 9 (plainElem (H := Unit) Try.prog 3))
  have B0 := hid ((Below.refl w.heap.size w).alloc (Nat.le_refl _) (.map #[] 0))
  go_enter Try.func42, Try.ntmps42
  go_wp2_with fail
  go_loopg [9] n (fun r iv wr => ∃ j : Nat, r = n - j ∧ iv = .int .i64 (j : Int) ∧ j ≤ n ∧ Hid (NumsIn wr w.heap.size ts j) ∧ Hid (Below w.heap.size w wr))
  case atStart => exact ⟨0, rfl, rfl, by omega, hid ⟨0, _, Nat.le_refl _, HO.out, Vc.nm_nil ts⟩, B0⟩
  case round =>
    obtain ⟨j, rfl, rfl, hj, HN, HB⟩ := hrel
    by_cases hlt : j < n
    · have i1 : (j : Int) < n := by omega
      have i0' : (0 : Int) ≤ j := by omega
      have e2 : IntKind.i64.wrap ((j : Int) + 1) = j + 1 := i64_in (by omega) (by omega)
      obtain ⟨b, off, rfl, hbl, hc⟩ := (TW.out.below HB.out).at' (by omega)
      have q1 := hc j hlt
      have hzj := HZ.out j hlt
      obtain ⟨t, ht⟩ : ∃ t, at_ ts j = t := ⟨_, rfl⟩
      rw [ht] at q1 hzj
      have HT := hid ht
      clear hc ht
      by_cases hz : t.size = 0
      · have e1 := (ba_empty hz).1
        have e3 := (ba_empty hz).2
        have HS := hid hz
        clear hz
        go_wp2_with fail
        go_roundg (n - (j + 1))
        case measure => omega
        case rel =>
          obtain ⟨m, D, hm, ho, hd⟩ := HN.out
          exact ⟨j + 1, rfl, by go_num, by omega, hid ⟨m, D, by omega, ho, Vc.nm_skip hd (by rw [HT.out]; exact HS.out)⟩, HB⟩
      · have e1 := (ba_full hz).1
        have e3 := (ba_full hz).2
        have HS := hid hz
        clear hz
        obtain ⟨m, D, hm, ho, hd⟩ := HN.out
        have HD := hid hd
        have HOw := hid ho
        clear HN hd ho
        go_wp2_with (at_mapUpdate; go_must (refine wpList_mapUpdate_own _ rfl _ _ _ 75 rfl 9 3 (string_keyed Try.underlying9) Try.underlying75 _ w.heap.size m _ rfl HOw.out (by unfold maxLen; omega) _ _ _ rfl rfl (Go.WideMaps.keyOf_string_mk Try.underlying9 hzj) _ [] (plainElem_int Try.underlying3 (wf_small j (by omega))) ?_); intro w1 o1 g1; have O1 := hid o1; have G1 := hid g1; clear o1 g1)
        go_roundg (n - (j + 1))
        case measure => omega
        case rel =>
          refine ⟨j + 1, rfl, by go_num, by omega, hid ⟨m + 1, _, by omega, O1.out, ?_⟩, hid (HB.out.grown G1.out HB.out.size (fun k hk => by simp at hk; omega))⟩
          have := Vc.nm_put HD.out HOw.out.isMap (by rw [HT.out]; exact HS.out)
          rw [HT.out] at this
          exact this
    · obtain rfl : j = n := by omega
      have k1 : ¬ ((j : Int) < j) := by omega
      go_wp2_with fail
      go_ret
      exact ⟨rfl, HN.out, HB.out⟩
end Go.Proofs.Ytfgbpjajkmfkoaa
