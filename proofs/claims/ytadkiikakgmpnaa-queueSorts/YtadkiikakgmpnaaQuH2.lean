/-
  Walks of the library's heap over an agenda's row: down.
-/
import Derived.Test.YtadkiikakgmpnaaQuH1
namespace Go.Proofs.Ytadkiikakgmpnaa
open Go.RowKit Go.Maps Hp
set_option linter.unusedVariables false
theorem Hp.DInv.weak {f : Nat → Ent} {n i : Nat} {q : Prop} (h : DInv lt f n i True) : DInv lt f n i q := ⟨fun k h0 hk hp _ => h.ok k h0 hk hp (fun _ => trivial), h.gr⟩
theorem fin_down {g : Nat → Ent} {m i i0 : Nat} {mv : Prop} (h : ((mv ∨ i ≠ i0) → Heap lt g m) ∧ UInv lt g m i) (hi : i0 ≤ i) : (mv → Heap lt g m) ∧ (decide (i0 < i) = true → Heap lt g m) ∧ (decide (i0 < i) = false → UInv lt g m i0) :=
  ⟨fun e => h.1 (.inl e), fun e => h.1 (.inr (by have := of_decide_eq_true e; omega)), fun e => by
    have e1 := of_decide_eq_false e
    obtain rfl : i = i0 := by omega
    exact h.2⟩
/-- What down answers. -/
def DnOut (w : World) (O M n m i0 : Nat) (v : Value) (f : Nat → Ent) (mv : Prop) (e : Ending) (w' : World) : Prop :=
  ∃ b g, e = .returned (.bool b) ∧ Ag w' O v M n g ∧ Mix f g m ∧ Mut (own O M v) w w' ∧ (mv → Heap lt g m) ∧ (b = true → Heap lt g m) ∧ (b = false → UInv lt g m i0)
section
variable {w : World} {O M n m : Nat} {v : Value} {f : Nat → Ent}
set_option maxRecDepth 100000 in
set_option maxHeartbeats 6400000 in
theorem down_calls (h : Ag w O v M n f) {i0 : Nat} {mv : Prop} (hm : m ≤ n) (hi0 : i0 ≤ m) (hn : n ≤ 100000) (hD : DInv lt f m i0 mv) :
    Calls Try.prog 23 #[ifc O, .int .i64 (i0 : Int), .int .i64 (m : Int)] w fun e w' => DnOut w O M n m i0 v f mv e w' := by
  have HH := hid h
  have HD := hid (show DInv lt f m i0 (mv ∨ i0 ≠ i0) from ⟨fun k h0 hk hp hq => hD.ok k h0 hk hp (fun e => (hq e).elim id (fun e => absurd rfl e)), hD.gr⟩)
  have ml := m_less O
  have ms := m_swap O
  clear h hD
  go_enter Try.func23, Try.ntmps23
  go_wp2_with fail
  go_loopg [7] (m - i0) (fun r iv wr => ∃ (i : Nat) (g : Nat → Ent), r = m - i ∧ iv = .int .i64 (i : Int) ∧ i0 ≤ i ∧ i ≤ m ∧ Hid (Ag wr O v M n g) ∧ Hid (DInv lt g m i (mv ∨ i ≠ i0)) ∧ Hid (Mix f g m) ∧ Hid (Mut (own O M v) w wr))
  case atStart => exact ⟨i0, f, rfl, rfl, Nat.le_refl _, hi0, HH, HD, hid (Mix.refl f m), hid (Mut.refl _ w)⟩
  case round =>
    obtain ⟨i, g, rfl, rfl, hi0, hi, HA, HV, HX, HM⟩ := hrel
    obtain ⟨D2, hD2⟩ : ∃ D2 : Int, D2 = 2 * (i : Int) := ⟨_, rfl⟩
    obtain ⟨J1, hJ1⟩ : ∃ J1 : Nat, J1 = 2 * i + 1 := ⟨_, rfl⟩
    obtain ⟨J2, hJ2⟩ : ∃ J2 : Nat, J2 = 2 * i + 2 := ⟨_, rfl⟩
    have e1 : IntKind.i64.wrap (2 * (i : Int)) = D2 := by rw [i64_in (by omega) (by omega), hD2]
    have e2 : IntKind.i64.wrap (D2 + 1) = (J1 : Int) := by rw [i64_in (by omega) (by omega)]; omega
    have e3 : IntKind.i64.wrap ((J1 : Int) + 1) = (J2 : Int) := by rw [i64_in (by omega) (by omega)]; omega
    have E1 := hid hJ1
    have E2 := hid hJ2
    have ja : 2 * i + 1 ≤ J1 := by omega
    have jb : J1 ≤ 2 * i + 1 := by omega
    have jc : J1 + 1 ≤ J2 := by omega
    have jd : J2 ≤ J1 + 1 := by omega
    have k0 : ¬ (J1 : Int) < 0 := by omega
    clear hD2 hJ1 hJ2
    by_cases h1 : J1 < m
    · have k1 : ¬ (m : Int) ≤ J1 := by omega
      by_cases h2 : J2 < m
      · have k2 : (J2 : Int) < m := by omega
        go_wp2_with fail
        refine (less_calls HA.out (i := J2) (j := J1) (by omega) (by omega) (by omega)).mono ?_
        rintro e w1 ⟨⟨t, rfl, ht⟩, b1⟩
        have A1 := hid (HA.out.below b1)
        have M1 := hid (HM.out.trans (Mut.ofBelow b1 (own O M v)) (fun _ _ e => e))
        have HT := hid ht
        clear ht b1 HA HM
        cases t
        · have KD := hid (show Kid lt g m i J1 from by rw [E1.out] at *; rw [E2.out] at *; exact Kid.one lt_ord h1 (fun e => absurd (HT.out.2 e.2) (by decide)))
          go_wp2_with fail
          refine (less_calls A1.out (i := J1) (j := i) (by omega) (by omega) (by omega)).mono ?_
          rintro e w3 ⟨⟨t3, rfl, ht3⟩, b3⟩
          have A3 := hid (A1.out.below b3)
          have M3 := hid (M1.out.trans (Mut.ofBelow b3 (own O M v)) (fun _ _ e => e))
          have T3 := hid ht3
          clear ht3 b3 A1 M1
          cases t3
          · have HS := hid (HV.out.stop (stop_kid lt_ord KD.out (fun e => absurd (T3.out.2 e) (by decide))))
            have FN := hid (fin_down HS.out hi0)
            clear HS KD T3 HV
            go_wp2_with fail
            go_ret
            exact ⟨_, g, rfl, A3.out, HX.out, M3.out, FN.out⟩
          · have HL := hid (T3.out.1 rfl)
            go_wp2_with fail
            refine (swap_calls A3.out (i := i) (j := J1) (by omega) (by omega) (by omega)).mono ?_
            rintro e w4 ⟨rfl, a4, m4⟩
            have A4 := hid a4
            have M4 := hid (M3.out.trans m4 (fun _ _ e => e))
            have V4 := hid (show DInv lt (swp g i J1) m J1 (mv ∨ J1 ≠ i0) from (HV.out.step lt_ord KD.out HL.out).weak)
            have X4 := hid (HX.out.swap (i := i) (j := J1) (by omega) (by omega))
            clear a4 m4 A3 M3 HV HX T3 KD
            go_wp2_with fail
            go_roundg (m - J1)
            case measure => omega
            case rel => exact ⟨J1, _, rfl, rfl, by omega, by omega, A4, V4, X4, M4⟩
        · have KD := hid (show Kid lt g m i J2 from by rw [E1.out] at *; rw [E2.out] at *; exact Kid.two lt_ord h2 (HT.out.1 rfl))
          go_wp2_with fail
          refine (less_calls A1.out (i := J2) (j := i) (by omega) (by omega) (by omega)).mono ?_
          rintro e w3 ⟨⟨t3, rfl, ht3⟩, b3⟩
          have A3 := hid (A1.out.below b3)
          have M3 := hid (M1.out.trans (Mut.ofBelow b3 (own O M v)) (fun _ _ e => e))
          have T3 := hid ht3
          clear ht3 b3 A1 M1
          cases t3
          · have HS := hid (HV.out.stop (stop_kid lt_ord KD.out (fun e => absurd (T3.out.2 e) (by decide))))
            have FN := hid (fin_down HS.out hi0)
            clear HS KD T3 HV
            go_wp2_with fail
            go_ret
            exact ⟨_, g, rfl, A3.out, HX.out, M3.out, FN.out⟩
          · have HL := hid (T3.out.1 rfl)
            go_wp2_with fail
            refine (swap_calls A3.out (i := i) (j := J2) (by omega) (by omega) (by omega)).mono ?_
            rintro e w4 ⟨rfl, a4, m4⟩
            have A4 := hid a4
            have M4 := hid (M3.out.trans m4 (fun _ _ e => e))
            have V4 := hid (show DInv lt (swp g i J2) m J2 (mv ∨ J2 ≠ i0) from (HV.out.step lt_ord KD.out HL.out).weak)
            have X4 := hid (HX.out.swap (i := i) (j := J2) (by omega) (by omega))
            clear a4 m4 A3 M3 HV HX T3 KD
            go_wp2_with fail
            go_roundg (m - J2)
            case measure => omega
            case rel => exact ⟨J2, _, rfl, rfl, by omega, by omega, A4, V4, X4, M4⟩
      · have k2 : ¬ (J2 : Int) < m := by omega
        have KD := hid (show Kid lt g m i J1 from by rw [E1.out] at *; rw [E2.out] at *; exact Kid.one lt_ord h1 (fun e => h2 e.1))
        go_wp2_with fail
        refine (less_calls HA.out (i := J1) (j := i) (by omega) (by omega) (by omega)).mono ?_
        rintro e w3 ⟨⟨t3, rfl, ht3⟩, b3⟩
        have A3 := hid (HA.out.below b3)
        have M3 := hid (HM.out.trans (Mut.ofBelow b3 (own O M v)) (fun _ _ e => e))
        have T3 := hid ht3
        clear ht3 b3 HA HM
        cases t3
        · have HS := hid (HV.out.stop (stop_kid lt_ord KD.out (fun e => absurd (T3.out.2 e) (by decide))))
          have FN := hid (fin_down HS.out hi0)
          clear HS KD T3 HV
          go_wp2_with fail
          go_ret
          exact ⟨_, g, rfl, A3.out, HX.out, M3.out, FN.out⟩
        · have HL := hid (T3.out.1 rfl)
          go_wp2_with fail
          refine (swap_calls A3.out (i := i) (j := J1) (by omega) (by omega) (by omega)).mono ?_
          rintro e w4 ⟨rfl, a4, m4⟩
          have A4 := hid a4
          have M4 := hid (M3.out.trans m4 (fun _ _ e => e))
          have V4 := hid (show DInv lt (swp g i J1) m J1 (mv ∨ J1 ≠ i0) from (HV.out.step lt_ord KD.out HL.out).weak)
          have X4 := hid (HX.out.swap (i := i) (j := J1) (by omega) (by omega))
          clear a4 m4 A3 M3 HV HX T3 KD
          go_wp2_with fail
          go_roundg (m - J1)
          case measure => omega
          case rel => exact ⟨J1, _, rfl, rfl, by omega, by omega, A4, V4, X4, M4⟩
    · have k1 : (m : Int) ≤ J1 := by omega
      have HS := hid (HV.out.stop (stop_none (by omega)))
      have FN := hid (fin_down HS.out hi0)
      clear HS HV
      go_wp2_with fail
      go_ret
      exact ⟨_, g, rfl, HA.out, HX.out, HM.out, FN.out⟩
end
end Go.Proofs.Ytadkiikakgmpnaa
