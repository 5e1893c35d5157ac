/-
  The walk of the law UtfPoints.
-/
import Derived.Test.YtbobdpklhhkniaaUtfP2
import Derived.Deep.QuietTactic
import Derived.BigQuiet
import Derived.WalkSmall
namespace Go.Proofs.Ytbobdpklhhkniaa
open Go.RowKit
set_option linter.unusedVariables false

/-- A row of ints of the call's own, as a slice. -/
structure Is (w : World) (a : Option Addr) (L : List Int) : Prop where
  at' : ∀ i, i < L.length → ∃ g, a = some ⟨g, 0, none⟩ ∧ w.cell? ⟨g, i, none⟩ = some (.int .i64 (L.getD i 0))
theorem Is.own {w : World} {base : Nat} {e : TypeId} {v : Value} {L : List Int} (h : w.ownsRow base e 1 v L.length (ivals L)) : ∃ a cap, v = .slice a L.length cap ∧ Is w a L := by
  obtain ⟨hl, h⟩ := h
  rcases h with ⟨rfl, h0⟩ | ⟨g, cap, cur, rfl, hb, hg, hn, hm, hs, ht⟩
  · exact ⟨none, 0, by rw [h0], ⟨fun i hi => by omega⟩⟩
  · refine ⟨_, cap, rfl, ⟨fun i hi => ⟨g, rfl, ?_⟩⟩⟩
    have e1 : (cur.toList.take (L.length * 1))[i]? = some (.int .i64 (L.getD i 0)) := by rw [ht]; simp [ivals, hi]
    rw [List.getElem?_take_of_lt (by omega)] at e1
    have e2 : cur[i]? = some (.int .i64 (L.getD i 0)) := by simpa using e1
    simp [World.cell?, hg, e2]
theorem Is.below {w w' : World} {a : Option Addr} {L : List Int} (h : Is w a L) (hb : Below w.heap.size w w') : Is w' a L :=
  ⟨fun i hi => by
    obtain ⟨g, e, hc⟩ := h.at' i hi
    exact ⟨g, e, by rw [hb.cell (p := ⟨g, i, none⟩) (World.block_lt_of_cell? _ _ hc)]; exact hc⟩⟩

theorem Sl.first {w : World} {a : Option Addr} {n cap : Nat} {f : Nat → Int} (h : Sl w a n cap f) (k : Nat) (hk : k ≤ n) : Sl w a k cap f :=
  ⟨Nat.le_trans hk h.le, h.mx, h.bd, fun e => ⟨by have := (h.nil e).1; omega, (h.nil e).2⟩, fun h0 => by
    obtain ⟨b, off, e, hlt, hc⟩ := h.at' (by omega)
    exact ⟨b, off, e, hlt, fun i hi => hc i (by omega)⟩⟩

set_option maxHeartbeats 1000000 in
theorem utfPoints_calls (a0 : Option Addr) (n0 c0 : Nat) (f0 : Nat → Int) (w : World) (h0 : Sl w a0 n0 c0 f0) :
    Calls Try.prog 5 #[.slice a0 n0 c0] w fun e w' => e = .returned (.bool true) ∧ Below w.heap.size w w' := by
  have H0 := hid h0
  clear h0
  by_cases hb0 : 2000 < n0
  · have hb0' : (2000 : Int) < n0 := by omega
    go_enter Try.func5, Try.ntmps5
    go_wp2_with fail
    refine (fixed_calls _).mono ?_
    rintro e w' ⟨rfl, hb⟩
    go_wp2_with fail
    go_ret
    exact ⟨rfl, hb⟩
  have hb0' : ¬ (2000 : Int) < n0 := by omega
  have hlen := Utf.pts_len n0 n0 f0 (Nat.le_refl _)
  have hrest := Utf.rest_le n0 n0 f0 (Nat.le_refl _)
  have hpr := Utf.pts_rest n0 n0 f0 (Nat.le_refl _)
  have hpl := congrArg List.length hpr
  rw [List.length_append, List.length_replicate] at hpl
  have hget : ∀ i, i < (Utf.pts f0 n0).length → (i < (Utf.pts f0 (n0 - Utf.rest f0 n0)).length → (Utf.pts f0 (n0 - Utf.rest f0 n0)).getD i 0 = (Utf.pts f0 n0).getD i 0) ∧ ((Utf.pts f0 (n0 - Utf.rest f0 n0)).length ≤ i → (Utf.pts f0 n0).getD i 0 = -1) := fun i hi => by
    constructor
    · intro h
      rw [hpr, List.getD_eq_getElem?_getD, List.getD_eq_getElem?_getD, List.getElem?_append_left h]
    · intro h
      rw [hpr, List.getD_eq_getElem?_getD, List.getElem?_append_right h, List.getElem?_replicate, if_pos (by omega)]
      rfl
  have pts1 := points_calls a0 n0 c0 f0 w H0.out (by omega)
  have pts2 := fun w => refPoints_calls (str f0 n0) n0 f0 w (St.of H0.out.bd n0) (by omega)
  have rst1 := fun w' (h : Sl w' a0 n0 c0 f0) => rest_calls a0 n0 c0 f0 w' h
  have rst2 := fun w => refRest_calls (str f0 n0) n0 f0 w (St.of H0.out.bd n0) (by omega)
  have pts3 := fun w' (h : Sl w' a0 (n0 - Utf.rest f0 n0) c0 f0) => points_calls a0 (n0 - Utf.rest f0 n0) c0 f0 w' h (by omega)
  generalize Utf.pts f0 (n0 - Utf.rest f0 n0) = M at *
  generalize Utf.pts f0 n0 = L at *
  generalize Utf.rest f0 n0 = r at *
  clear hpr
  have hp1 : L.length ≤ M.length + r := by omega
  have hp2 : M.length + r ≤ L.length := by omega
  have hcc := H0.out.le
  have hc0 : (n0 : Int) - r ≤ c0 := by omega
  have hc1 : 0 ≤ (n0 : Int) - r := by omega
  clear hpl
  have HG := hid hget
  have P1 := hid pts1
  have P2 := hid pts2
  have R1 := hid rst1
  have R2 := hid rst2
  have P3 := hid pts3
  clear hget pts1 pts2 rst1 rst2 pts3
  go_enter Try.func5, Try.ntmps5
  go_wp2_with fail
  refine P1.out.mono ?_
  rintro e w1 ⟨v1, rfl, own1, bel1⟩
  obtain ⟨l1, k1, rfl, is1⟩ := Is.own own1
  have hcv := run_convert_sl (P := Try.prog) w1 22 5 9 Try.underlying22 Try.underlying5 Try.underlying9 (H0.out.below bel1)
  go_wp2_with fail
  refine (P2.out w1).mono ?_
  rintro e w2 ⟨v2, rfl, own2, bel2⟩
  obtain ⟨l2, k2, rfl, is2⟩ := Is.own own2
  have I1 := hid (is1.below bel2)
  have I2 := hid is2
  clear is1 is2 own1 own2 hcv
  have B2 := hid (bel1.trans (bel2.mono bel1.size))
  clear bel1 bel2
  go_wp2_with fail
  go_loopg [25] L.length (fun k iv wr => ∃ j d : Nat, k = L.length - j ∧ j ≤ L.length ∧ iv = .int .i64 j ∧ wr = w2.drewN d)
  case atStart => exact ⟨0, 0, by omega, by omega, rfl, rfl⟩
  case round =>
    obtain ⟨j, d, rfl, hj, rfl, rfl⟩ := hrel
    by_cases hlt : j < L.length
    · obtain ⟨g1, rfl, q1⟩ := I1.out.at' j hlt
      obtain ⟨g2, rfl, q2⟩ := I2.out.at' j hlt
      have hlt' : (j : Int) < L.length := by omega
      generalize L.getD j 0 = x at *
      go_wp2_with fail
      go_quiet (fail)
      go_wp2_with fail
      go_roundg (L.length - (j + 1))
      case measure => omega
      case rel => exact ⟨j + 1, _, rfl, by omega, by go_num, rfl⟩
    · obtain rfl : j = L.length := by omega
      have B3 := hid (below_drewN B2.out d)
      have I3 := hid (I1.out.below (below_drewN (Below.refl _ _) d))
      generalize w2.drewN d = w3 at *
      clear I1 I2 B2
      go_wp2_with fail
      refine (R1.out w3 (H0.out.below B3.out)).mono ?_
      rintro e w3 ⟨rfl, rfl⟩
      have hcv := run_convert_sl (P := Try.prog) w3 22 5 9 Try.underlying22 Try.underlying5 Try.underlying9 (H0.out.below B3.out)
      go_wp2_with fail
      refine (R2.out w3).mono ?_
      rintro e w4 ⟨rfl, bel4⟩
      clear hcv
      have B4 := hid (B3.out.trans (bel4.mono B3.out.size))
      have I4 := hid (I3.out.below bel4)
      clear I3 B3 bel4
      go_wp2_with fail
      refine (P3.out w4 ((H0.out.below B4.out).first _ (by omega))).mono ?_
      rintro e w5 ⟨v5, rfl, own5, bel5⟩
      obtain ⟨l5, k5, rfl, is5⟩ := Is.own own5
      have J1 := hid (I4.out.below bel5)
      have J5 := hid is5
      have B5 := hid (B4.out.trans (bel5.mono B4.out.size))
      clear is5 own5 I4 B4 bel5
      go_wp2_with fail
      go_loopg [61] L.length (fun k iv wr => ∃ j d : Nat, k = L.length - j ∧ j ≤ L.length ∧ iv = .int .i64 j ∧ wr = w5.drewN d)
      case atStart => exact ⟨0, 0, by omega, by omega, rfl, rfl⟩
      case round =>
        obtain ⟨j, d, rfl, hj, rfl, rfl⟩ := hrel
        by_cases hlt : j < L.length
        · obtain ⟨g1, rfl, q1⟩ := J1.out.at' j hlt
          have hlt' : (j : Int) < L.length := by omega
          by_cases hlm : j < M.length
          · obtain ⟨g2, rfl, q2⟩ := J5.out.at' j hlm
            have hlm' : (j : Int) < M.length := by omega
            have hge : ¬ M.length ≤ j := by omega
            have hge2 : decide (M.length ≤ j) = false := by simp; omega
            rw [(HG.out j hlt).1 hlm] at q2
            generalize L.getD j 0 = x at *
            go_wp2_with fail
            go_quiet (fail)
            go_wp2_with fail
            go_roundg (L.length - (j + 1))
            case measure => omega
            case rel => exact ⟨j + 1, _, rfl, by omega, by go_num, rfl⟩
          · have hlm' : decide ((j : Int) < M.length) = false := by simp; omega
            have hlm2 : (M.length : Int) ≤ j := by omega
            rw [(HG.out j hlt).2 (by omega)] at q1
            go_wp2_with fail
            go_quiet (fail)
            go_wp2_with fail
            go_roundg (L.length - (j + 1))
            case measure => omega
            case rel => exact ⟨j + 1, _, rfl, by omega, by go_num, rfl⟩
        · obtain rfl : j = L.length := by omega
          have B6 := hid (below_drewN B5.out d)
          generalize w5.drewN d = w6 at *
          go_wp2_with fail
          refine (fixed_calls _).mono ?_
          rintro e w7 ⟨rfl, hb7⟩
          have hr4 : (r : Int) < 4 := by omega
          go_wp2_with fail
          go_ret
          exact ⟨rfl, B6.out.trans (hb7.mono B6.out.size)⟩
end Go.Proofs.Ytbobdpklhhkniaa
