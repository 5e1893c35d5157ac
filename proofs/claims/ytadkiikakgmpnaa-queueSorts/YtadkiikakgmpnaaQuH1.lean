/-
  Walks of the library's heap over an agenda's row: up, down.
-/
import Derived.Test.YtadkiikakgmpnaaQuW3
import Derived.Deep.LoopGhost
namespace Go.Proofs.Ytadkiikakgmpnaa
open Go.RowKit Go.Maps Hp
set_option linter.unusedVariables false
abbrev ifc (O : Nat) : Value := .iface 53 (.pointer (some ⟨O, 0, none⟩))
theorem m_len (O : Nat) (w : World) : (method 180 53 (.pointer (some ⟨O, 0, none⟩)) "Len").run Try.prog w = .ok (21, .pointer (some ⟨O, 0, none⟩)) w := by kernel_rfl
theorem m_less (O : Nat) (w : World) : (method 180 53 (.pointer (some ⟨O, 0, none⟩)) "Less").run Try.prog w = .ok (40, .pointer (some ⟨O, 0, none⟩)) w := by kernel_rfl
theorem m_swap (O : Nat) (w : World) : (method 180 53 (.pointer (some ⟨O, 0, none⟩)) "Swap").run Try.prog w = .ok (43, .pointer (some ⟨O, 0, none⟩)) w := by kernel_rfl
theorem m_push (O : Nat) (w : World) : (method 180 53 (.pointer (some ⟨O, 0, none⟩)) "Push").run Try.prog w = .ok (42, .pointer (some ⟨O, 0, none⟩)) w := by kernel_rfl
theorem m_pop (O : Nat) (w : World) : (method 180 53 (.pointer (some ⟨O, 0, none⟩)) "Pop").run Try.prog w = .ok (41, .pointer (some ⟨O, 0, none⟩)) w := by kernel_rfl
/-- The first m places of a row have been exchanged among themselves. -/
structure Mix (f g : Nat → Ent) (m : Nat) : Prop where
  far : ∀ k, m ≤ k → g k = f k
  cont : ∀ e, Cont g m e ↔ Cont f m e
theorem Mix.refl (f : Nat → Ent) (m : Nat) : Mix f f m := ⟨fun _ _ => rfl, fun _ => Iff.rfl⟩
theorem Mix.swap {f g : Nat → Ent} {m i j : Nat} (h : Mix f g m) (hi : i < m) (hj : j < m) : Mix f (swp g i j) m :=
  ⟨fun k hk => by rw [swp_o g (by omega) (by omega)]; exact h.far k hk, fun e => (swp_cont hi hj e).trans (h.cont e)⟩
theorem Mix.trans {f g k : Nat → Ent} {m : Nat} (h : Mix f g m) (h' : Mix g k m) : Mix f k m := ⟨fun i hi => (h'.far i hi).trans (h.far i hi), fun e => (h'.cont e).trans (h.cont e)⟩
section
variable {w : World} {O M n m : Nat} {v : Value} {f : Nat → Ent}
set_option maxRecDepth 100000 in
set_option maxHeartbeats 3200000 in
theorem up_calls (h : Ag w O v M n f) {j0 : Nat} (hm : m ≤ n) (hj0 : j0 < m) (hn : n ≤ 100000) (hU : UInv lt f m j0) :
    Calls Try.prog 22 #[ifc O, .int .i64 (j0 : Int)] w fun e w' => e = .returned (.tuple #[]) ∧ ∃ g, Ag w' O v M n g ∧ Heap lt g m ∧ Mix f g m ∧ Mut (own O M v) w w' := by
  have HH := hid h
  have HU := hid hU
  have ml := m_less O
  have ms := m_swap O
  clear h hU
  go_enter Try.func22, Try.ntmps22
  go_wp2_with fail
  go_loopg [1] j0 (fun r jv wr => ∃ (j : Nat) (g : Nat → Ent), j = r ∧ jv = .int .i64 (j : Int) ∧ j < m ∧ Hid (Ag wr O v M n g) ∧ Hid (UInv lt g m j) ∧ Hid (Mix f g m) ∧ Hid (Mut (own O M v) w wr))
  case atStart => exact ⟨j0, f, rfl, rfl, hj0, HH, HU, hid (Mix.refl f m), hid (Mut.refl _ w)⟩
  case round =>
    obtain ⟨j, g, rfl, rfl, hj, HA, HV, HX, HM⟩ := hrel
    obtain ⟨p, hp⟩ : ∃ p : Nat, p = (j - 1) / 2 := ⟨_, rfl⟩
    have e1 : IntKind.i64.wrap ((j : Int) - 1) = j - 1 := i64_in (by omega) (by omega)
    have e2 : ((j : Int) - 1).tdiv 2 = p := by
      rcases Nat.eq_zero_or_pos j with h0 | h0
      · subst h0; subst hp; rfl
      · rw [Int.tdiv_eq_ediv_of_nonneg (by omega)]; omega
    have e3 : IntKind.i64.wrap (p : Int) = p := i64_in (by omega) (by omega)
    by_cases h0 : j = 0
    · have t0 : ((p : Int) == (j : Int)) = true := by subst h0; subst hp; rfl
      have HD := hid (HV.out.stop (.inl h0))
      clear hp h0
      go_wp2_with fail
      go_end0
      exact ⟨rfl, g, HA.out, HD.out, HX.out, HM.out⟩
    · have hpp : p = par j := by unfold par; exact hp
      have hlt : p < j := by rw [hpp]; exact par_lt (by omega)
      have t0 : ((p : Int) == (j : Int)) = false := by simp; omega
      have HP := hid hpp
      clear hp hpp
      go_wp2_with fail
      refine (less_calls HA.out (i := j) (j := p) (by omega) (by omega) (by omega)).mono ?_
      rintro e w1 ⟨⟨t, rfl, ht⟩, b1⟩
      have A1 := hid (HA.out.below b1)
      have M1 := hid (HM.out.trans (Mut.ofBelow b1 (own O M v)) (fun _ _ e => e))
      have HT := hid ht
      clear ht b1 HA HM
      cases t
      · have HD := hid (HV.out.stop (.inr (by rw [← HP.out]; exact fun e => absurd (HT.out.2 e) (by decide))))
        go_wp2_with fail
        go_end0
        exact ⟨rfl, g, A1.out, HD.out, HX.out, M1.out⟩
      · have HL := hid (show lt (g j) (g p) from HT.out.1 rfl)
        go_wp2_with fail
        refine (swap_calls A1.out (i := p) (j := j) (by omega) (by omega) (by omega)).mono ?_
        rintro e w2 ⟨rfl, a2, m2⟩
        have A2 := hid a2
        have M2 := hid (M1.out.trans m2 (fun _ _ e => e))
        have V2 := hid (show UInv lt (swp g p j) m p from by rw [HP.out]; exact HV.out.step lt_ord (by omega) hj (by rw [← HP.out]; exact HL.out))
        have X2 := hid (HX.out.swap (i := p) (j := j) (by omega) hj)
        clear a2 m2 A1 M1 HV HX HT HL
        go_wp2_with fail
        go_roundg p
        case measure => omega
        case rel => exact ⟨p, _, rfl, rfl, by omega, A2, V2, X2, M2⟩
end
end Go.Proofs.Ytadkiikakgmpnaa
