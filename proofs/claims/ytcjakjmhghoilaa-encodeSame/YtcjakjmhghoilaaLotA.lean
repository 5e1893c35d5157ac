/-
  Several texts in one: QuH2, QuH3, QuA, QuA2, QuA3, QuSq.
-/
import Derived.Test.YtcjakjmhghoilaaLotQ
/-
  Walks of the library's heap over an agenda's row: down.
-/
namespace Go.Proofs.Ytcjakjmhghoilaa
open Go.RowKit Go.Maps Hp
set_option linter.unusedVariables false
theorem Hp.DInv.weak {f : Nat → Ent} {n i : Nat} {q : Prop} (h : DInv lt f n i True) : DInv lt f n i q := ⟨fun k h0 hk hp _ => h.ok k h0 hk hp (fun _ => trivial), h.gr⟩
theorem fin_down {g : Nat → Ent} {m i i0 : Nat} {mv : Prop} (h : ((mv ∨ i ≠ i0) → Heap lt g m) ∧ UInv lt g m i) (hi : i0 ≤ i) : (mv → Heap lt g m) ∧ (decide (i0 < i) = true → Heap lt g m) ∧ (decide (i0 < i) = false → UInv lt g m i0) :=
  ⟨fun e => h.1 (.inl e), fun e => h.1 (.inr (by have := of_decide_eq_true e; omega)), fun e => by
    have e1 := of_decide_eq_false e
    obtain rfl : i = i0 := by omega
    exact h.2⟩
/-- What down answers. -/
def DnOut (w : World) (O M n m i0 : Nat) (v : Value) (f : Nat → Ent) (mv : Prop) (e : Ending) (w' : World) : Prop :=
  ∃ b g, e = .returned (.bool b) ∧ Ag w' O v M n g ∧ Mix f g m ∧ Mut (own O M v) w w' ∧ (mv → Heap lt g m) ∧ (b = true → Heap lt g m) ∧ (b = false → UInv lt g m i0)
section
variable {w : World} {O M n m : Nat} {v : Value} {f : Nat → Ent}
set_option maxRecDepth 100000 in
set_option maxHeartbeats 6400000 in
theorem down_calls (h : Ag w O v M n f) {i0 : Nat} {mv : Prop} (hm : m ≤ n) (hi0 : i0 ≤ m) (hn : n ≤ 100000) (hD : DInv lt f m i0 mv) :
    Calls Try.prog 59 #[ifc O, .int .i64 (i0 : Int), .int .i64 (m : Int)] w fun e w' => DnOut w O M n m i0 v f mv e w' := by
  have HH := hid h
  have HD := hid (show DInv lt f m i0 (mv ∨ i0 ≠ i0) from ⟨fun k h0 hk hp hq => hD.ok k h0 hk hp (fun e => (hq e).elim id (fun e => absurd rfl e)), hD.gr⟩)
  have ml := m_less O
  have ms := m_swap O
  clear h hD
  go_enter Try.func59, Try.ntmps59
  go_wp2_with fail
  go_loopg [7] (m - i0) (fun r iv wr => ∃ (i : Nat) (g : Nat → Ent), r = m - i ∧ iv = .int .i64 (i : Int) ∧ i0 ≤ i ∧ i ≤ m ∧ Hid (Ag wr O v M n g) ∧ Hid (DInv lt g m i (mv ∨ i ≠ i0)) ∧ Hid (Mix f g m) ∧ Hid (Mut (own O M v) w wr))
  case atStart => exact ⟨i0, f, rfl, rfl, Nat.le_refl _, hi0, HH, HD, hid (Mix.refl f m), hid (Mut.refl _ w)⟩
  case round =>
    obtain ⟨i, g, rfl, rfl, hi0, hi, HA, HV, HX, HM⟩ := hrel
    obtain ⟨D2, hD2⟩ : ∃ D2 : Int, D2 = 2 * (i : Int) := ⟨_, rfl⟩
    obtain ⟨J1, hJ1⟩ : ∃ J1 : Nat, J1 = 2 * i + 1 := ⟨_, rfl⟩
    obtain ⟨J2, hJ2⟩ : ∃ J2 : Nat, J2 = 2 * i + 2 := ⟨_, rfl⟩
    have e1 : IntKind.i64.wrap (2 * (i : Int)) = D2 := by rw [i64_in (by omega) (by omega), hD2]
    have e2 : IntKind.i64.wrap (D2 + 1) = (J1 : Int) := by rw [i64_in (by omega) (by omega)]; omega
    have e3 : IntKind.i64.wrap ((J1 : Int) + 1) = (J2 : Int) := by rw [i64_in (by omega) (by omega)]; omega
    have E1 := hid hJ1
    have E2 := hid hJ2
    have ja : 2 * i + 1 ≤ J1 := by omega
    have jb : J1 ≤ 2 * i + 1 := by omega
    have jc : J1 + 1 ≤ J2 := by omega
    have jd : J2 ≤ J1 + 1 := by omega
    have k0 : ¬ (J1 : Int) < 0 := by omega
    clear hD2 hJ1 hJ2
    by_cases h1 : J1 < m
    · have k1 : ¬ (m : Int) ≤ J1 := by omega
      by_cases h2 : J2 < m
      · have k2 : (J2 : Int) < m := by omega
        go_wp2_with fail
        refine (less_calls HA.out (i := J2) (j := J1) (by omega) (by omega) (by omega)).mono ?_
        rintro e w1 ⟨⟨t, rfl, ht⟩, b1⟩
        have A1 := hid (HA.out.below b1)
        have M1 := hid (HM.out.trans (Mut.ofBelow b1 (own O M v)) (fun _ _ e => e))
        have HT := hid ht
        clear ht b1 HA HM
        cases t
        · have KD := hid (show Kid lt g m i J1 from by rw [E1.out] at *; rw [E2.out] at *; exact Kid.one lt_ord h1 (fun e => absurd (HT.out.2 e.2) (by decide)))
          go_wp2_with fail
          refine (less_calls A1.out (i := J1) (j := i) (by omega) (by omega) (by omega)).mono ?_
          rintro e w3 ⟨⟨t3, rfl, ht3⟩, b3⟩
          have A3 := hid (A1.out.below b3)
          have M3 := hid (M1.out.trans (Mut.ofBelow b3 (own O M v)) (fun _ _ e => e))
          have T3 := hid ht3
          clear ht3 b3 A1 M1
          cases t3
          · have HS := hid (HV.out.stop (stop_kid lt_ord KD.out (fun e => absurd (T3.out.2 e) (by decide))))
            have FN := hid (fin_down HS.out hi0)
            clear HS KD T3 HV
            go_wp2_with fail
            go_ret
            exact ⟨_, g, rfl, A3.out, HX.out, M3.out, FN.out⟩
          · have HL := hid (T3.out.1 rfl)
            go_wp2_with fail
            refine (swap_calls A3.out (i := i) (j := J1) (by omega) (by omega) (by omega)).mono ?_
            rintro e w4 ⟨rfl, a4, m4⟩
            have A4 := hid a4
            have M4 := hid (M3.out.trans m4 (fun _ _ e => e))
            have V4 := hid (show DInv lt (swp g i J1) m J1 (mv ∨ J1 ≠ i0) from (HV.out.step lt_ord KD.out HL.out).weak)
            have X4 := hid (HX.out.swap (i := i) (j := J1) (by omega) (by omega))
            clear a4 m4 A3 M3 HV HX T3 KD
            go_wp2_with fail
            go_roundg (m - J1)
            case measure => omega
            case rel => exact ⟨J1, _, rfl, rfl, by omega, by omega, A4, V4, X4, M4⟩
        · have KD := hid (show Kid lt g m i J2 from by rw [E1.out] at *; rw [E2.out] at *; exact Kid.two lt_ord h2 (HT.out.1 rfl))
          go_wp2_with fail
          refine (less_calls A1.out (i := J2) (j := i) (by omega) (by omega) (by omega)).mono ?_
          rintro e w3 ⟨⟨t3, rfl, ht3⟩, b3⟩
          have A3 := hid (A1.out.below b3)
          have M3 := hid (M1.out.trans (Mut.ofBelow b3 (own O M v)) (fun _ _ e => e))
          have T3 := hid ht3
          clear ht3 b3 A1 M1
          cases t3
          · have HS := hid (HV.out.stop (stop_kid lt_ord KD.out (fun e => absurd (T3.out.2 e) (by decide))))
            have FN := hid (fin_down HS.out hi0)
            clear HS KD T3 HV
            go_wp2_with fail
            go_ret
            exact ⟨_, g, rfl, A3.out, HX.out, M3.out, FN.out⟩
          · have HL := hid (T3.out.1 rfl)
            go_wp2_with fail
            refine (swap_calls A3.out (i := i) (j := J2) (by omega) (by omega) (by omega)).mono ?_
            rintro e w4 ⟨rfl, a4, m4⟩
            have A4 := hid a4
            have M4 := hid (M3.out.trans m4 (fun _ _ e => e))
            have V4 := hid (show DInv lt (swp g i J2) m J2 (mv ∨ J2 ≠ i0) from (HV.out.step lt_ord KD.out HL.out).weak)
            have X4 := hid (HX.out.swap (i := i) (j := J2) (by omega) (by omega))
            clear a4 m4 A3 M3 HV HX T3 KD
            go_wp2_with fail
            go_roundg (m - J2)
            case measure => omega
            case rel => exact ⟨J2, _, rfl, rfl, by omega, by omega, A4, V4, X4, M4⟩
      · have k2 : ¬ (J2 : Int) < m := by omega
        have KD := hid (show Kid lt g m i J1 from by rw [E1.out] at *; rw [E2.out] at *; exact Kid.one lt_ord h1 (fun e => h2 e.1))
        go_wp2_with fail
        refine (less_calls HA.out (i := J1) (j := i) (by omega) (by omega) (by omega)).mono ?_
        rintro e w3 ⟨⟨t3, rfl, ht3⟩, b3⟩
        have A3 := hid (HA.out.below b3)
        have M3 := hid (HM.out.trans (Mut.ofBelow b3 (own O M v)) (fun _ _ e => e))
        have T3 := hid ht3
        clear ht3 b3 HA HM
        cases t3
        · have HS := hid (HV.out.stop (stop_kid lt_ord KD.out (fun e => absurd (T3.out.2 e) (by decide))))
          have FN := hid (fin_down HS.out hi0)
          clear HS KD T3 HV
          go_wp2_with fail
          go_ret
          exact ⟨_, g, rfl, A3.out, HX.out, M3.out, FN.out⟩
        · have HL := hid (T3.out.1 rfl)
          go_wp2_with fail
          refine (swap_calls A3.out (i := i) (j := J1) (by omega) (by omega) (by omega)).mono ?_
          rintro e w4 ⟨rfl, a4, m4⟩
          have A4 := hid a4
          have M4 := hid (M3.out.trans m4 (fun _ _ e => e))
          have V4 := hid (show DInv lt (swp g i J1) m J1 (mv ∨ J1 ≠ i0) from (HV.out.step lt_ord KD.out HL.out).weak)
          have X4 := hid (HX.out.swap (i := i) (j := J1) (by omega) (by omega))
          clear a4 m4 A3 M3 HV HX T3 KD
          go_wp2_with fail
          go_roundg (m - J1)
          case measure => omega
          case rel => exact ⟨J1, _, rfl, rfl, by omega, by omega, A4, V4, X4, M4⟩
    · have k1 : (m : Int) ≤ J1 := by omega
      have HS := hid (HV.out.stop (stop_none (by omega)))
      have FN := hid (fin_down HS.out hi0)
      clear HS HV
      go_wp2_with fail
      go_ret
      exact ⟨_, g, rfl, HA.out, HX.out, HM.out, FN.out⟩
end
end Go.Proofs.Ytcjakjmhghoilaa

/-
  Walks of the library's heap over an agenda's row: Push, Fix, Remove, Pop.
-/
namespace Go.Proofs.Ytcjakjmhghoilaa
open Go.RowKit Go.Maps Hp
set_option linter.unusedVariables false
/-- A row that is a heap. -/
structure Hq (w : World) (O : Nat) (v : Value) (M n : Nat) (f : Nat → Ent) : Prop where
  ag : Ag w O v M n f
  hp : Heap lt f n
/-- What is left of a row when a place's entry is taken out. -/
structure Less (f g : Nat → Ent) (n i : Nat) : Prop where
  cont : ∀ e, Cont g n e ↔ (Cont f (n + 1) e ∧ e.1 ≠ (f i).1)
theorem cont_snoc {f : Nat → Ent} {n : Nat} {x : Ent} (e : Ent) : Cont (fun k => if k < n then f k else x) (n + 1) e ↔ (Cont f n e ∨ e = x) := by
  constructor
  · rintro ⟨k, hk, rfl⟩
    by_cases h : k < n
    · simp only [h, if_true]; exact .inl ⟨k, h, rfl⟩
    · simp only [h, if_false]; exact .inr trivial
  · rintro (⟨k, hk, rfl⟩ | rfl)
    · exact ⟨k, by omega, by simp only [hk, if_true]⟩
    · exact ⟨n, by omega, by simp⟩
section
variable {w : World} {O M n m : Nat} {v : Value} {f : Nat → Ent}
/-- What Push leaves. -/
def PsOut (w : World) (O M n : Nat) (v : Value) (f : Nat → Ent) (x : Ent) (w' : World) : Prop :=
  ∃ v' g, Hq w' O v' M (n + 1) g ∧ (∀ e, Cont g (n + 1) e ↔ (Cont f n e ∨ e = x)) ∧ Same w v v' ∧ Mut (own O M v) w w'
set_option maxRecDepth 100000 in
set_option maxHeartbeats 3200000 in
theorem hpush_calls (h : Hq w O v M n f) (x : Ent) (hx : (key x.1).wf = true) (hno : ∀ k, k < n → (f k).1 ≠ x.1) (hn : n ≤ 10000) :
    Calls Try.prog 73 #[ifc O, .iface 63 (va x)] w fun e w' => e = .returned (.tuple #[]) ∧ PsOut w O M n v f x w' := by
  have HH := hid h
  have HNo := hid hno
  have ml := m_len O
  have mp := m_push O
  clear h hno
  go_enter Try.func73, Try.ntmps73
  go_wp2_with fail
  refine (push_calls HH.out.ag x hx HNo.out (by omega)).mono ?_
  rintro e w1 ⟨rfl, v1, a1, s1, m1⟩
  have A1 := hid a1
  have S1 := hid s1
  have M1 := hid m1
  clear a1 s1 m1
  go_wp2_with fail
  refine (wlen_calls A1.out).mono ?_
  rintro e w2 ⟨rfl, hw2⟩
  subst hw2
  obtain ⟨N, hN⟩ : ∃ N : Int, N = ((n + 1 : Nat) : Int) := ⟨_, rfl⟩
  have e1 : IntKind.i64.wrap (N - 1) = (n : Int) := by rw [i64_in (by omega) (by omega)]; omega
  rw [← hN]
  clear hN
  go_wp2_with fail
  refine (up_calls A1.out (m := n + 1) (j0 := n) (Nat.le_refl _) (by omega) (by omega) (push_inv HH.out.hp x)).mono ?_
  rintro e w3 ⟨rfl, g, a3, h3, x3, m3⟩
  have FN := hid (show PsOut w O M n v f x w3 from ⟨v1, g, ⟨a3, h3⟩, fun e => (x3.cont e).trans (cont_snoc e), S1.out, M1.out.trans m3 (fun k hk e => by
    rcases e with e | e | e
    · exact .inl e
    · exact .inr (.inl e)
    · rcases S1.out k e with h | h
      · exact .inr (.inr h)
      · omega)⟩)
  clear a3 h3 x3 m3
  go_wp2_with fail
  go_end0
  exact ⟨rfl, FN.out⟩
/-- What Fix leaves. -/
def FxOut (w : World) (O M n : Nat) (v : Value) (f : Nat → Ent) (w' : World) : Prop :=
  ∃ g, Hq w' O v M n g ∧ (∀ e, Cont g n e ↔ Cont f n e) ∧ Mut (own O M v) w w'
set_option maxRecDepth 100000 in
set_option maxHeartbeats 3200000 in
theorem hfix_calls (h : Ag w O v M n f) {i : Nat} (hi : i < n) (hD : DInv lt f n i False) (hn : n ≤ 10000) :
    Calls Try.prog 74 #[ifc O, .int .i64 (i : Int)] w fun e w' => e = .returned (.tuple #[]) ∧ FxOut w O M n v f w' := by
  have HH := hid h
  have HD := hid hD
  have ml := m_len O
  clear h hD
  go_enter Try.func74, Try.ntmps74
  go_wp2_with fail
  refine (wlen_calls HH.out).mono ?_
  rintro e w2 ⟨rfl, hw2⟩
  subst hw2
  go_wp2_with fail
  refine (down_calls HH.out (m := n) (i0 := i) (Nat.le_refl _) (by omega) (by omega) HD.out).mono ?_
  rintro e w3 ⟨b, g, rfl, a3, x3, m3, _, h3, u3⟩
  have A3 := hid a3
  have X3 := hid x3
  have M3 := hid m3
  have H3 := hid h3
  have U3 := hid u3
  clear a3 x3 m3 h3 u3
  cases b
  · go_wp2_with fail
    refine (up_calls A3.out (m := n) (j0 := i) (Nat.le_refl _) hi (by omega) (U3.out (by trivial))).mono ?_
    rintro e w4 ⟨rfl, g4, a4, h4, x4, m4⟩
    have FN := hid (show FxOut w2 O M n v f w4 from ⟨g4, ⟨a4, h4⟩, fun e => (x4.cont e).trans (X3.out.cont e), M3.out.trans m4 (fun _ _ e => e)⟩)
    clear a4 h4 x4 m4
    go_wp2_with fail
    go_end0
    exact ⟨rfl, FN.out⟩
  · have FN := hid (show FxOut w2 O M n v f w3 from ⟨g, ⟨A3.out, H3.out rfl⟩, X3.out.cont, M3.out⟩)
    go_wp2_with fail
    go_end0
    exact ⟨rfl, FN.out⟩
/-- What Pop and Remove leave. -/
def RmOut' (w : World) (O M n i : Nat) (v : Value) (f : Nat → Ent) (e : Ending) (w' : World) : Prop :=
  e = .returned (.iface 63 (va (f i))) ∧ ∃ v' g, Hq w' O v' M n g ∧ Less f g n i ∧ v'.ownBlock = v.ownBlock ∧ Mut (own O M v) w w'
theorem own_same {v v' : Value} (h : v'.ownBlock = v.ownBlock) : own O M v' = own O M v := by unfold own; rw [h]
set_option maxRecDepth 100000 in
set_option maxHeartbeats 3200000 in
theorem hpop_calls (h : Hq w O v M (n + 1) f) (hn : n ≤ 10000) :
    Calls Try.prog 48 #[ifc O] w fun e w' => RmOut' w O M n 0 v f e w' := by
  have HH := hid h
  have ml := m_len O
  have ms := m_swap O
  have mp := m_pop O
  clear h
  go_enter Try.func48, Try.ntmps48
  go_wp2_with fail
  refine (wlen_calls HH.out.ag).mono ?_
  rintro e w1 ⟨rfl, hw1⟩
  subst hw1
  obtain ⟨N, hN⟩ : ∃ N : Int, N = ((n + 1 : Nat) : Int) := ⟨_, rfl⟩
  have e1 : IntKind.i64.wrap (N - 1) = (n : Int) := by rw [i64_in (by omega) (by omega)]; omega
  rw [← hN]
  clear hN
  go_wp2_with fail
  refine (swap_calls HH.out.ag (i := 0) (j := n) (by omega) (by omega) (by omega)).mono ?_
  rintro e w2 ⟨rfl, a2, m2⟩
  have A2 := hid a2
  have M2 := hid m2
  have D2 := hid (show DInv lt (swp f 0 n) n 0 True from by
    rcases Nat.eq_zero_or_pos n with h0 | h0
    · subst h0; exact ⟨fun k _ hk => by omega, fun k _ hk => by omega⟩
    · exact (cut_inv lt_ord HH.out.hp h0).root)
  clear a2 m2
  go_wp2_with fail
  refine (down_calls A2.out (m := n) (i0 := 0) (by omega) (Nat.zero_le _) (by omega) D2.out).mono ?_
  rintro e w3 ⟨b, g, rfl, a3, x3, m3, h3, _, _⟩
  have A3 := hid a3
  have X3 := hid x3
  have M3 := hid (M2.out.trans m3 (fun _ _ e => e))
  have H3 := hid (h3 trivial)
  have hlast : g n = f 0 := by rw [x3.far n (Nat.le_refl _), swp_r]
  have HL := hid hlast
  have HC := hid (fun e => (x3.cont e).trans (cut_cont HH.out.ag.inj (Nat.zero_le n) e))
  clear a3 x3 m3 h3 hlast
  go_wp2_with fail
  refine (pop_calls A3.out (by omega)).mono ?_
  rintro e w4 ⟨rfl, v4, a4, s4, m4⟩
  have FN := hid (show RmOut' w1 O M n 0 v f (.returned (.iface 63 (va (g n)))) w4 from ⟨by rw [HL.out], v4, g, ⟨a4, H3.out⟩, ⟨HC.out⟩, s4, M3.out.trans m4 (fun _ _ e => e)⟩)
  clear a4 s4 m4
  go_wp2_with fail
  go_ret
  exact FN.out
set_option maxRecDepth 100000 in
set_option maxHeartbeats 3200000 in
theorem hremove_calls (h : Hq w O v M (n + 1) f) {i : Nat} (hi : i < n + 1) (hn : n ≤ 10000) :
    Calls Try.prog 60 #[ifc O, .int .i64 (i : Int)] w fun e w' => RmOut' w O M n i v f e w' := by
  have HH := hid h
  have ml := m_len O
  have ms := m_swap O
  have mp := m_pop O
  clear h
  go_enter Try.func60, Try.ntmps60
  go_wp2_with fail
  refine (wlen_calls HH.out.ag).mono ?_
  rintro e w1 ⟨rfl, hw1⟩
  subst hw1
  obtain ⟨N, hN⟩ : ∃ N : Int, N = ((n + 1 : Nat) : Int) := ⟨_, rfl⟩
  have e1 : IntKind.i64.wrap (N - 1) = (n : Int) := by rw [i64_in (by omega) (by omega)]; omega
  rw [← hN]
  clear hN
  by_cases hin : n = i
  · have t0 : ((n : Int) == (i : Int)) = true := by subst hin; simp
    have HI := hid hin
    clear hin
    go_wp2_with fail
    refine (pop_calls HH.out.ag (by omega)).mono ?_
    rintro e w4 ⟨rfl, v4, a4, s4, m4⟩
    have FN := hid (show RmOut' w1 O M n i v f (.returned (.iface 63 (va (f n)))) w4 from ⟨by rw [HI.out], v4, f, ⟨a4, HH.out.hp.sub (by omega)⟩, ⟨fun e => by
      rw [← HI.out]
      have := cut_cont HH.out.ag.inj (Nat.le_refl n) e
      rw [show swp f n n = f from by funext k; unfold swp; split <;> simp_all] at this
      exact this⟩, s4, m4⟩)
    clear a4 s4 m4
    go_wp2_with fail
    go_ret
    exact FN.out
  · have t0 : ((n : Int) == (i : Int)) = false := by simp; omega
    have hlt : i < n := by omega
    clear hin
    go_wp2_with fail
    refine (swap_calls HH.out.ag (i := i) (j := n) (by omega) (by omega) (by omega)).mono ?_
    rintro e w2 ⟨rfl, a2, m2⟩
    have A2 := hid a2
    have M2 := hid m2
    have D2 := hid (cut_inv lt_ord HH.out.hp hlt)
    clear a2 m2
    go_wp2_with fail
    refine (down_calls A2.out (m := n) (i0 := i) (by omega) (by omega) (by omega) D2.out).mono ?_
    rintro e w3 ⟨b, g, rfl, a3, x3, m3, _, h3, u3⟩
    have A3 := hid a3
    have M3 := hid (M2.out.trans m3 (fun _ _ e => e))
    have HL := hid (show g n = f i by rw [x3.far n (Nat.le_refl _), swp_r])
    have HC := hid (fun e => (x3.cont e).trans (cut_cont HH.out.ag.inj (show i ≤ n by omega) e))
    have H3 := hid h3
    have U3 := hid u3
    clear a3 x3 m3 h3 u3
    cases b
    · go_wp2_with fail
      refine (up_calls A3.out (m := n) (j0 := i) (by omega) hlt (by omega) (U3.out (by trivial))).mono ?_
      rintro e w4 ⟨rfl, g4, a4, h4, x4, m4⟩
      have A4 := hid a4
      have M4 := hid (M3.out.trans m4 (fun _ _ e => e))
      have H4 := hid h4
      have L4 := hid ((x4.far n (Nat.le_refl _)).trans HL.out)
      have C4 := hid (fun e => (x4.cont e).trans (HC.out e))
      clear a4 h4 x4 m4
      go_wp2_with fail
      refine (pop_calls A4.out (by omega)).mono ?_
      rintro e w5 ⟨rfl, v5, a5, s5, m5⟩
      have FN := hid (show RmOut' w1 O M n i v f (.returned (.iface 63 (va (g4 n)))) w5 from ⟨by rw [L4.out], v5, g4, ⟨a5, H4.out⟩, ⟨C4.out⟩, s5, M4.out.trans m5 (fun _ _ e => e)⟩)
      clear a5 s5 m5
      go_wp2_with fail
      go_ret
      exact FN.out
    · have H4 := hid (H3.out rfl)
      go_wp2_with fail
      refine (pop_calls A3.out (by omega)).mono ?_
      rintro e w5 ⟨rfl, v5, a5, s5, m5⟩
      have FN := hid (show RmOut' w1 O M n i v f (.returned (.iface 63 (va (g n)))) w5 from ⟨by rw [HL.out], v5, g, ⟨a5, H4.out⟩, ⟨HC.out⟩, s5, M3.out.trans m5 (fun _ _ e => e)⟩)
      clear a5 s5 m5
      go_wp2_with fail
      go_ret
      exact FN.out
end
end Go.Proofs.Ytcjakjmhghoilaa

/-
  Walks of an agenda: New, Len, Has, Put, Drop, Take.
-/
namespace Go.Proofs.Ytcjakjmhghoilaa
open Go.RowKit Go.Maps Hp
set_option linter.unusedVariables false
theorem Try.zeroIq (w : World) : (zeroValue 3).run Try.prog w = .ok (.int .i64 0) w := by kernel_rfl
/-- A block of an entry, as it is written: between the stores and behind them. -/
theorem ret_e {W : World} {R : Nat} {t : TypeId} {a b c : Value} (X : W.heap[R]? = some (.cells #[a, b, c] t (0, 0))) (x y z : Value) :
    (W.cell? ⟨R, 0, none⟩ = some a ∧ W.frozen? ⟨R, 0, none⟩ = false) ∧
    ((W.setCell ⟨R, 0, none⟩ x).cell? ⟨R, 1, none⟩ = some b ∧ (W.setCell ⟨R, 0, none⟩ x).frozen? ⟨R, 1, none⟩ = false) ∧
    (((W.setCell ⟨R, 0, none⟩ x).setCell ⟨R, 1, none⟩ y).cell? ⟨R, 2, none⟩ = some c ∧ ((W.setCell ⟨R, 0, none⟩ x).setCell ⟨R, 1, none⟩ y).frozen? ⟨R, 2, none⟩ = false) ∧
    ((((W.setCell ⟨R, 0, none⟩ x).setCell ⟨R, 1, none⟩ y).setCell ⟨R, 2, none⟩ z).cell? ⟨R, 0, none⟩ = some x ∧ (((W.setCell ⟨R, 0, none⟩ x).setCell ⟨R, 1, none⟩ y).setCell ⟨R, 2, none⟩ z).cell? ⟨R, 1, none⟩ = some y ∧ (((W.setCell ⟨R, 0, none⟩ x).setCell ⟨R, 1, none⟩ y).setCell ⟨R, 2, none⟩ z).cell? ⟨R, 2, none⟩ = some z) ∧
    (((W.setCell ⟨R, 0, none⟩ x).setCell ⟨R, 1, none⟩ y).setCell ⟨R, 2, none⟩ z).heap[R]? = some (.cells #[x, y, z] t (0, 0)) := by
  have h1 := heap_setCell_same W R 0 _ t x X
  have h2 := heap_setCell_same _ R 1 _ t y h1
  have h3 := heap_setCell_same _ R 2 _ t z h2
  have h1' : (W.setCell ⟨R, 0, none⟩ x).heap[R]? = some (.cells #[x, b, c] t (0, 0)) := h1
  have h2' : ((W.setCell ⟨R, 0, none⟩ x).setCell ⟨R, 1, none⟩ y).heap[R]? = some (.cells #[x, y, c] t (0, 0)) := h2
  have h3' : (((W.setCell ⟨R, 0, none⟩ x).setCell ⟨R, 1, none⟩ y).setCell ⟨R, 2, none⟩ z).heap[R]? = some (.cells #[x, y, z] t (0, 0)) := h3
  refine ⟨⟨?_, ?_⟩, ⟨?_, ?_⟩, ⟨?_, ?_⟩, ⟨?_, ?_, ?_⟩, h3'⟩
  · simp [World.cell?, X]
  · simp [World.frozen?, X]
  · simp only [World.cell?, h1']; rfl
  · simp only [World.frozen?, h1']; rfl
  · simp only [World.cell?, h2']; rfl
  · simp only [World.frozen?, h2']; rfl
  · simp only [World.cell?, h3']; rfl
  · simp only [World.cell?, h3']; rfl
  · simp only [World.cell?, h3']; rfl
theorem below_e {w W : World} {n R : Nat} (h : Below n w W) (hR : n ≤ R) (x y z : Value) : Below n w (((W.setCell ⟨R, 0, none⟩ x).setCell ⟨R, 1, none⟩ y).setCell ⟨R, 2, none⟩ z) :=
  ((h.setCell (p := ⟨R, 0, none⟩) hR x).setCell (p := ⟨R, 1, none⟩) hR y).setCell (p := ⟨R, 2, none⟩) hR z
theorem mut_e (W : World) (R : Nat) (x y z : Value) {S : Nat → Prop} (hS : S R) : Mut S W (((W.setCell ⟨R, 0, none⟩ x).setCell ⟨R, 1, none⟩ y).setCell ⟨R, 2, none⟩ z) :=
  ((Mut.set W R 0 x hS).trans (Mut.set _ R 1 y hS) (fun _ _ e => e)).trans (Mut.set _ R 2 z hS) (fun _ _ e => e)
/-- An agenda that holds l. -/
structure Qa (w : World) (O M : Nat) (v : Value) (l : List Ent) : Prop where
  ex : ∃ f, Hq w O v M l.length f ∧ ∀ e, e ∈ l ↔ Cont f l.length e
  dis : Dis l
def put (l : List Ent) (x : Ent) : List Ent := wo l x.1 ++ [x]
theorem Hq.kept {w w' : World} {O M n : Nat} {v : Value} {f : Nat → Ent} (h : Hq w O v M n f) {S : Nat → Prop} (hm : Mut S w w') (hS : ∀ k, own O M v k → ¬ S k) : Hq w' O v M n f := ⟨h.ag.kept hm hS, h.hp⟩
theorem Hq.below {w w' : World} {O M n : Nat} {v : Value} {f : Nat → Ent} (h : Hq w O v M n f) (hb : Below w.heap.size w w') : Hq w' O v M n f := ⟨h.ag.below hb, h.hp⟩
section
variable {w w' : World} {O M n : Nat} {v : Value} {f : Nat → Ent} {l : List Ent}
theorem Qa.kept (h : Qa w O M v l) {S : Nat → Prop} (hm : Mut S w w') (hS : ∀ k, own O M v k → ¬ S k) : Qa w' O M v l := by
  obtain ⟨f, h1, h2⟩ := h.ex
  exact ⟨⟨f, h1.kept hm hS, h2⟩, h.dis⟩
theorem Qa.below (h : Qa w O M v l) (hb : Below w.heap.size w w') : Qa w' O M v l := h.kept (Mut.ofBelow hb fun _ => False) fun _ _ e => e
theorem Qa.lt (h : Qa w O M v l) {k : Nat} (hk : own O M v k) : k < w.heap.size := by
  obtain ⟨f, h1, h2⟩ := h.ex
  exact h1.ag.lt hk
theorem Qa.wf (h : Qa w O M v l) : ∀ e ∈ l, (key e.1).wf = true := fun e he => by
  obtain ⟨f, h1, h2⟩ := h.ex
  obtain ⟨k, hk, rfl⟩ := (h2 e).1 he
  exact h1.ag.wf k hk
/-- A look-up of a place. -/
theorem Ag.look (h : Ag w O v M n f) (p : Int) (hp : (key p).wf = true) :
    ∃ (c : Int) (t : Bool), (Instr.lookup 98 (.map (some M)) (.int .i64 p) true).run Try.prog w = .ok (.tuple #[.int .i64 c, .bool t]) w ∧ ((t = true ∧ ∃ k : Nat, c = k ∧ k < n ∧ (f k).1 = p) ∨ (t = false ∧ ∀ k, k < n → (f k).1 ≠ p)) := by
  obtain ⟨D, hD, hs, hP⟩ := h.map
  obtain ⟨u, ps, hrun, hu⟩ := hD.look_ok (int_keyed Try.underlying3) Try.underlying98 (Try.zeroIq w) (plainElem_int Try.underlying3 (by decide)) (keyOf_int_mk Try.underlying3 hp)
  obtain ⟨c, rfl, hc, hwc⟩ := plainElem_int_inv Try.underlying3 hu
  refine ⟨c, _, hrun, ?_⟩
  obtain ⟨h1, h2⟩ := hP p hp
  simp only [Prod.mk.injEq] at hc
  cases hh : Maps.has D (key p) with
  | true =>
    left
    obtain ⟨k, hk, hq⟩ := h1.1 hh
    have h4 := hc.1
    rw [show D.atKey (Lit.int .i64 p) (DataW.lit (Lit.int IntKind.i64 0)) = DataW.lit (Lit.int .i64 (k : Int)) from h2 k hk hq _] at h4
    exact ⟨hh, k, by simpa using h4.symm, hk, hq⟩
  | false =>
    right
    refine ⟨hh, fun k hk hq => ?_⟩
    rw [h1.2 ⟨k, hk, hq⟩] at hh
    cases hh
theorem Ag.block (h : Ag w O v M n f) {K : Nat} (hK : w.heap.size ≤ K) : ¬ own O M v K := fun e => by have := h.lt e; omega

/-! ### New, Len -/
def NewOut (w : World) (e : Ending) (w' : World) : Prop := ∃ O M v, e = .returned (pt O) ∧ Qa w' O M v [] ∧ w.heap.size ≤ O ∧ w.heap.size ≤ M ∧ v.ownBlock = none ∧ Below w.heap.size w w'
set_option maxRecDepth 100000 in
set_option maxHeartbeats 1600000 in
theorem qnew_calls (w : World) : Calls Try.prog 45 #[] w fun e w' => NewOut w e w' := by
  have B := hid (((Below.refl w.heap.size w).alloc (Nat.le_refl _) (.map #[] 0)).alloc (by simp) (.cells #[.slice none 0 0, .map (some w.heap.size)] 102))
  have hs : (w.alloc (.map #[] 0)).heap.size = w.heap.size + 1 := by simp
  have A := hid (show Ag ((w.alloc (.map #[] 0)).alloc (.cells #[.slice none 0 0, .map (some w.heap.size)] 102)) (w.heap.size + 1) (.slice none 0 0) w.heap.size 0 (fun _ => (0, 0, 0)) from
    ⟨by rw [← hs]; exact heap_alloc_new _ _, World.ownsRow_nil _ _ _ _, ⟨_, (World.ownsMap_made w _ _ _).alloc _, rfl, fun p hp => ⟨⟨fun h => by simp [Maps.has] at h, fun ⟨k, hk, _⟩ => by omega⟩, fun k hk => by omega⟩⟩, fun i j hi => by omega, fun k hk => by omega⟩)
  clear hs
  have hmm := run_makeMap (P := Try.prog) 98
  go_enter Try.func45, Try.ntmps45
  go_wp2_with fail
  go_ret
  exact ⟨_, _, _, rfl, ⟨⟨_, ⟨A.out, fun k _ hk => by simp at hk⟩, fun e => ⟨fun h => (by cases h), fun ⟨k, hk, _⟩ => (by simp at hk)⟩⟩, List.Pairwise.nil⟩, by omega, Nat.le_refl _, rfl, B.out⟩
theorem alen_nil (w : World) : Calls Try.prog 47 #[.pointer none] w fun e w' => e = .returned (.int .i64 0) ∧ w' = w := by
  go_enter Try.func47, Try.ntmps47
  go_wp2_with fail
  go_ret
  exact ⟨rfl, rfl⟩
theorem alen_calls (h : Qa w O M v l) : Calls Try.prog 47 #[pt O] w fun e w' => e = .returned (.int .i64 (l.length : Int)) ∧ w' = w := by
  obtain ⟨f, h1, _⟩ := h.ex
  have H1 := hid h1.ag
  clear h h1
  go_enter Try.func47, Try.ntmps47
  go_wp2_with fail
  refine (wlen_calls H1.out).mono ?_
  rintro e w1 ⟨rfl, rfl⟩
  go_wp2_with fail
  go_ret
  exact ⟨rfl, rfl⟩
/-! ### Has -/
def HasOut (l : List Ent) (p : Int) (e : Ending) : Prop := (∃ x, x ∈ l ∧ x.1 = p ∧ e = .returned (.tuple #[va x, .bool true])) ∨ ((∀ x ∈ l, x.1 ≠ p) ∧ e = .returned (.tuple #[va (0, 0, 0), .bool false]))
end
end Go.Proofs.Ytcjakjmhghoilaa

/-
  Walks of an agenda: Put, Drop, Take.
-/
namespace Go.Proofs.Ytcjakjmhghoilaa
open Go.RowKit Go.Maps Hp
set_option linter.unusedVariables false
section
variable {w w' : World} {O M n : Nat} {v : Value} {f : Nat → Ent} {l : List Ent}
/-- An agenda behind a call. -/
def PutOut (w : World) (O M : Nat) (v : Value) (l : List Ent) (w' : World) : Prop := ∃ v', Qa w' O M v' l ∧ Same w v v' ∧ Mut (own O M v) w w'
theorem PutOut.below (h : Qa w O M v l) (hb : Below w.heap.size w w') : PutOut w O M v l w' := ⟨v, h.below hb, fun k e => .inl e, Mut.ofBelow hb _⟩
theorem PutOut.before {w0 : World} (hb : Below w0.heap.size w0 w) (hv : ∀ k, own O M v k → k < w0.heap.size) (h : PutOut w O M v l w') : PutOut w0 O M v l w' := by
  obtain ⟨v', h1, h2, h3⟩ := h
  exact ⟨v', h1, fun k e => (h2 k e).imp id (fun e => Nat.le_trans hb.size e), (Mut.ofBelow hb _).trans h3 (fun _ _ e => e)⟩
theorem PutOut.after {w2 : World} (h : PutOut w O M v l w') {S : Nat → Prop} (hm : Mut S w' w2) (hS : ∀ k, S k → w.heap.size ≤ k) (hS2 : ∀ v' k, Same w v v' → own O M v' k → Qa w' O M v' l → ¬ S k) : PutOut w O M v l w2 := by
  obtain ⟨v', h1, h2, h3⟩ := h
  exact ⟨v', h1.kept hm (fun k hk => hS2 v' k h2 hk h1), h2, h3.trans hm (fun k hk e => by have := hS k e; omega)⟩
theorem put_new (x : Ent) {g : Nat → Ent} (hd : Dis l) (h2 : ∀ e, e ∈ l ↔ Cont f l.length e) (hno : ∀ k, k < l.length → (f k).1 ≠ x.1) (hg : ∀ e, Cont g (l.length + 1) e ↔ (Cont f l.length e ∨ e = x)) :
    (put l x).length = l.length + 1 ∧ (∀ e, e ∈ put l x ↔ Cont g (l.length + 1) e) ∧ Dis (put l x) := by
  have hw : wo l x.1 = l := wo_none (fun e he hq => by
    obtain ⟨k, hk, rfl⟩ := (h2 e).1 he
    exact hno k hk hq)
  refine ⟨by unfold put; rw [hw]; simp, fun e => ?_, put_dis hd x⟩
  unfold put
  rw [hw, hg e, ← h2 e]
  simp
theorem put_old (x : Ent) {i : Nat} {g : Nat → Ent} (hd : Dis l) (h2 : ∀ e, e ∈ l ↔ Cont f l.length e) (hI : Inj (fun e : Ent => e.1) f l.length) (hi : i < l.length) (hx : (f i).1 = x.1) (hg : ∀ e, Cont g l.length e ↔ Cont (ch f i x) l.length e) :
    (put l x).length = l.length ∧ (∀ e, e ∈ put l x ↔ Cont g l.length e) ∧ Dis (put l x) := by
  refine ⟨?_, fun e => ?_, put_dis hd x⟩
  · have := wo_len hd (p := x.1) ⟨f i, (h2 _).2 ⟨i, hi, rfl⟩, hx⟩
    unfold put
    simp
    omega
  · rw [hg e]
    unfold put
    rw [List.mem_append, wo_mem, h2 e, List.mem_singleton]
    constructor
    · rintro (⟨⟨k, hk, rfl⟩, hne⟩ | rfl)
      · exact ⟨k, hk, ch_ne (fun h => hne (by rw [h, hx]))⟩
      · exact ⟨i, hi, ch_eq f i e⟩
    · rintro ⟨k, hk, rfl⟩
      by_cases hki : k = i
      · rw [hki, ch_eq]; exact .inr rfl
      · rw [ch_ne hki]
        exact .inl ⟨⟨k, hk, rfl⟩, fun h => hki (hI k i hk hi (h.trans hx.symm))⟩
theorem Ag.turn (h : Ag w O v M n f) {g cap i : Nat} (hv : v = .slice (some ⟨g, 0, none⟩) n cap) (hi : i < n) (x : Ent) (hx : (f i).1 = x.1) {W : World} (hW : W = set3 w g (i * 3) x) : Ag W O v M n (ch f i x) ∧ Mut (own O M v) w W := by
  subst hW
  subst hv
  obtain ⟨hgO, hgM⟩ := h.neg (g := g) rfl
  have m := set3_mut w g (i * 3) x (S := fun k => k = g) rfl
  have key : ∀ k, (f k).1 = (ch f i x k).1 := fun k => by
    by_cases hk : k = i
    · rw [hk, ch_eq, hx]
    · rw [ch_ne hk]
  obtain ⟨D, h1, h2, h3⟩ := h.map
  exact ⟨⟨(m.block O h.ltO (fun e => hgO e.symm)).trans h.blk, set3_own h.row x hi, ⟨D, map_mut h1 m (fun e => hgM e.symm), h2, h3.congr (fun k _ => key k)⟩,
    fun a b ha hb hq => h.inj a b ha hb (by show (f a).1 = (f b).1; rw [key a, key b]; exact hq), fun k hk => by rw [← key k]; exact h.wf k hk⟩, m.mono (fun k e => .inr (.inr (by rw [e]; rfl)))⟩
theorem put_kept {w w1 w3 : World} {O M n : Nat} {v : Value} {f : Nat → Ent} {x : Ent} {t : TypeId} {a b c : Value} (hK : w1.heap[w.heap.size]? = some (.cells #[a, b, c] t (0, 0))) (hL : ∀ k, own O M v k → k < w.heap.size) (hB : Below w.heap.size w w1) (h : PsOut w1 O M n v f x w3) :
    w3.cell? ⟨w.heap.size, 0, none⟩ = some a ∧ w3.cell? ⟨w.heap.size, 1, none⟩ = some b ∧ w3.cell? ⟨w.heap.size, 2, none⟩ = some c := by
  obtain ⟨v', g, _, _, _, m⟩ := h
  have h1 : w3.heap[w.heap.size]? = some (.cells #[a, b, c] t (0, 0)) := (m.block _ (Array.getElem?_eq_some_iff.1 hK).1 (fun e => by have := hL _ e; omega)).trans hK
  exact ⟨by simp only [World.cell?, h1]; rfl, by simp only [World.cell?, h1]; rfl, by simp only [World.cell?, h1]; rfl⟩
theorem put_one {w w1 w3 : World} {x : Ent} (hB : Below w.heap.size w w1) (hL : ∀ k, own O M v k → k < w.heap.size) (hd : Dis l) (h2 : ∀ e, e ∈ l ↔ Cont f l.length e) (hno : ∀ k, k < l.length → (f k).1 ≠ x.1)
    (h : PsOut w1 O M l.length v f x w3) : PutOut w O M v (put l x) w3 := by
  obtain ⟨v', g, h1, hg, s, m⟩ := h
  obtain ⟨e1, e2, e3⟩ := put_new x hd h2 hno hg
  exact PutOut.before hB hL ⟨v', ⟨⟨g, by rw [e1]; exact h1, by rw [e1]; exact e2⟩, e3⟩, s, m⟩
theorem put_two {w w1 w2 w3 : World} {x : Ent} {i : Nat} (hB : Below w.heap.size w w1) (hL : ∀ k, own O M v k → k < w.heap.size) (hd : Dis l) (h2 : ∀ e, e ∈ l ↔ Cont f l.length e) (hI : Inj (fun e : Ent => e.1) f l.length) (hi : i < l.length) (hx : (f i).1 = x.1)
    (m2 : Mut (own O M v) w1 w2) (h : FxOut w2 O M l.length v (ch f i x) w3) : PutOut w O M v (put l x) w3 := by
  obtain ⟨g, h1, hg, m⟩ := h
  obtain ⟨e1, e2, e3⟩ := put_old x hd h2 hI hi hx hg
  exact PutOut.before hB hL ⟨v, ⟨⟨g, by rw [e1]; exact h1, by rw [e1]; exact e2⟩, e3⟩, fun k e => .inl e, m2.trans m (fun _ _ e => e)⟩
set_option maxRecDepth 100000 in
set_option maxHeartbeats 3200000 in
theorem aput_nil (x : Ent) (w : World) : Calls Try.prog 57 #[.pointer none, va x] w fun e w' => e = .returned (.tuple #[]) ∧ Below w.heap.size w w' := by
  obtain ⟨x0, x1, x2⟩ := x
  have B0 := hid ((Below.refl w.heap.size w).alloc (Nat.le_refl _) (.cells #[.int .i64 x0, .int .i64 x1, .int .i64 x2] 63))
  unfold va
  go_enter Try.func57, Try.ntmps57
  go_wp2_with fail
  refine bodyPost_ret (v := .tuple #[]) (by simp [results, Try.results57, go_sem]) rfl ?_
  exact ⟨rfl, B0.out⟩
set_option maxRecDepth 100000 in
set_option maxHeartbeats 3200000 in
theorem aput_calls (h : Qa w O M v l) (x : Ent) (hx : (key x.1).wf = true) (hl : l.length < 10000) :
    Calls Try.prog 57 #[pt O, va x] w fun e w' => e = .returned (.tuple #[]) ∧ PutOut w O M v (put l x) w' := by
  obtain ⟨f, h1, h2⟩ := h.ex
  obtain ⟨x0, x1, x2⟩ := x
  have hlt : ∀ k, own O M v k → k < w.heap.size := fun k hk => h.lt hk
  have B0 := hid ((Below.refl w.heap.size w).alloc (Nat.le_refl _) (.cells #[.int .i64 x0, .int .i64 x1, .int .i64 x2] 63))
  have a0 := h1.ag.below B0.out
  obtain ⟨W, hW⟩ : ∃ W, w.alloc (.cells #[.int .i64 x0, .int .i64 x1, .int .i64 x2] 63) = W := ⟨_, rfl⟩
  have hr0 : W.heap[w.heap.size]? = some (.cells #[.int .i64 x0, .int .i64 x1, .int .i64 x2] 63 (0, 0)) := by rw [← hW]; exact heap_alloc_new w _
  rw [hW] at a0 B0
  have c0 := a0.c0
  have c1 := a0.c1
  have n0 : W.cell? ⟨w.heap.size, 0, none⟩ = some (.int .i64 x0) := by simp [World.cell?, hr0]
  have n1 : W.cell? ⟨w.heap.size, 1, none⟩ = some (.int .i64 x1) := by simp [World.cell?, hr0]
  have n2 : W.cell? ⟨w.heap.size, 2, none⟩ = some (.int .i64 x2) := by simp [World.cell?, hr0]
  obtain ⟨c, t, hrun, hc⟩ := a0.drew.look x0 hx
  have HC := hid hc
  have A0 := hid a0
  have H2 := hid h2
  have HH := hid h1.hp
  have HD := hid h.dis
  have HL := hid hlt
  have HK := hid hr0
  clear h h1 h2 hc a0 hlt hr0
  unfold va
  go_enter Try.func57, Try.ntmps57
  go_wp2_with fail
  clear hW
  go_region
  have A1 := hid A0.out.drew
  have B1 := hid B0.out.drew
  have N1 := hid (show W.drew.cell? ⟨w.heap.size, 0, none⟩ = some (.int .i64 x0) ∧ W.drew.cell? ⟨w.heap.size, 1, none⟩ = some (.int .i64 x1) ∧ W.drew.cell? ⟨w.heap.size, 2, none⟩ = some (.int .i64 x2) ∧ W.drew.cell? ⟨O, 0, none⟩ = some v from ⟨n0, n1, n2, c0⟩)
  have K1 := hid (show W.drew.heap[w.heap.size]? = some (.cells #[.int .i64 x0, .int .i64 x1, .int .i64 x2] 63 (0, 0)) from HK.out)
  clear n0 n1 n2 c0 c1 hrun A0 B0 HK
  generalize W.drew = W1 at *
  clear W
  obtain ⟨n0, n1, n2, c0⟩ := N1.out
  cases t
  · have HN := hid (show ∀ k, k < l.length → (f k).1 ≠ x0 from by
      rcases HC.out with ⟨h, _⟩ | ⟨_, h⟩
      · cases h
      · exact h)
    clear HC c0
    have HW := hid hx
    clear hx
    go_wp2_with fail
    go_region_held3 (fun w' => w'.cell? ⟨w.heap.size, 0, none⟩ = some (.int .i64 x0) ∧ w'.cell? ⟨w.heap.size, 1, none⟩ = some (.int .i64 x1) ∧ w'.cell? ⟨w.heap.size, 2, none⟩ = some (.int .i64 x2)) (first | exact ⟨n0, n1, n2⟩ | exact N3.out | go_keep) (first | (go_at_call 73; refine (hpush_calls (w := W1) (x := (x0, x1, x2)) ⟨A1.out, HH.out⟩ HW.out HN.out (by omega)).mono ?_; rintro e w3 ⟨rfl, o3⟩; have O3 := hid o3; have N3 := hid (put_kept (w1 := W1) K1.out HL.out B1.out o3); clear o3) | (go_at_call 73; refine (hpush_calls (w := W1.drew) (x := (x0, x1, x2)) ⟨A1.out.drew, HH.out⟩ HW.out HN.out (by omega)).mono ?_; rintro e w3 ⟨rfl, o3⟩; have O3 := hid o3; have N3 := hid (put_kept (w1 := W1.drew) K1.out HL.out B1.out.drew o3); clear o3))
    have FN := hid (show PutOut w O M v (put l (x0, x1, x2)) w3 from by first | exact put_one B1.out HL.out HD.out H2.out HN.out O3.out | exact put_one B1.out.drew HL.out HD.out H2.out HN.out O3.out)
    clear O3 N3 HN
    go_wp2_with fail
    refine bodyPost_ret (v := .tuple #[]) (by simp [results, Try.results57, go_sem]) rfl ?_
    exact ⟨rfl, FN.out⟩
  · obtain ⟨k, rfl, hk, hq⟩ : ∃ k : Nat, c = k ∧ k < l.length ∧ (f k).1 = x0 := by
      rcases HC.out with ⟨_, h⟩ | ⟨h, _⟩
      · exact h
      · cases h
    obtain ⟨g, cap, rfl, _, _⟩ := A1.out.pos (by omega)
    have k0 : (0 : Int) ≤ k := by omega
    have k1 : (k : Int) < l.length := by omega
    have HQ := hid hq
    obtain ⟨a0, ⟨u0, b0⟩, a1, ⟨u1, b1⟩, a2, ⟨u2, b2⟩, _⟩ := st3 A1.out.row x0 x1 x2 hk
    obtain ⟨W2, hW2⟩ : ∃ W, (set3 W1 g (k * 3) (x0, x1, x2)).drew = W := ⟨_, rfl⟩
    obtain ⟨a4, m4⟩ := A1.out.turn rfl hk (x0, x1, x2) hq rfl
    have a4 := a4.drew
    have m4 := m4.drew
    rw [hW2] at a4 m4
    have A4 := hid a4
    have M4 := hid m4
    clear HC hq a4 m4
    go_wp2_with fail
    go_region
    show Exit.then _ _ Exit.normal _ (set3 W1 g (k * 3) (x0, x1, x2)).drew
    rw [hW2]
    clear hW2 a0 a1 a2 b0 b1 b2 n0 n1 n2 c0
    go_wp2_with fail
    refine (hfix_calls A4.out hk (fix_inv lt_ord HH.out hk (x0, x1, x2)) (by omega)).mono ?_
    rintro e w5 ⟨rfl, o5⟩
    have FN := hid (put_two B1.out HL.out HD.out H2.out A1.out.inj hk HQ.out M4.out o5)
    clear o5
    go_wp2_with fail
    go_end0
    exact ⟨rfl, FN.out⟩
end
end Go.Proofs.Ytcjakjmhghoilaa

/-
  Walks of an agenda: Drop, Take.
-/
namespace Go.Proofs.Ytcjakjmhghoilaa
open Go.RowKit Go.Maps Hp
set_option linter.unusedVariables false
section
variable {w w' : World} {O M n : Nat} {v : Value} {f : Nat → Ent} {l : List Ent}
theorem less_is {g : Nat → Ent} {p : Int} {i : Nat} (hd : Dis l) (h2 : ∀ e, e ∈ l ↔ Cont f l.length e) (hn : l.length = n + 1) (hi : i < n + 1) (hp : (f i).1 = p) (h : Less f g n i) :
    (wo l p).length = n ∧ (∀ e, e ∈ wo l p ↔ Cont g n e) := by
  rw [hn] at h2
  refine ⟨?_, fun e => ?_⟩
  · have := wo_len hd (p := p) ⟨f i, (h2 _).2 ⟨i, hi, rfl⟩, hp⟩
    omega
  · rw [wo_mem, h2 e, h.cont e, hp]
theorem less_out {p : Int} {i : Nat} {e : Ending} (hd : Dis l) (h2 : ∀ e, e ∈ l ↔ Cont f l.length e) (hn : l.length = n + 1) (hi : i < n + 1) (hp : (f i).1 = p) (h : RmOut' w O M n i v f e w') :
    e = .returned (.iface 63 (va (f i))) ∧ ∃ v', Qa w' O M v' (wo l p) ∧ v'.ownBlock = v.ownBlock ∧ Mut (own O M v) w w' := by
  obtain ⟨he, v', g, h1, hl, s, m⟩ := h
  obtain ⟨e1, e2⟩ := less_is hd h2 hn hi hp hl
  exact ⟨he, v', ⟨⟨g, by rw [e1]; exact h1, by rw [e1]; exact e2⟩, wo_dis hd p⟩, s, m⟩
def DropOut (w : World) (O M : Nat) (v : Value) (l : List Ent) (p : Int) (e : Ending) (w' : World) : Prop :=
  ∃ t, e = .returned (.bool t) ∧ (t = true ↔ ∃ x ∈ l, x.1 = p) ∧ PutOut w O M v (wo l p) w'
set_option maxRecDepth 100000 in
set_option maxHeartbeats 1600000 in
theorem adrop_nil (p : Int) (w : World) : Calls Try.prog 49 #[.pointer none, .int .i64 p] w fun e w' => e = .returned (.bool false) ∧ w' = w := by
  go_enter Try.func49, Try.ntmps49
  go_wp2_with fail
  go_ret
  exact ⟨rfl, rfl⟩
set_option maxRecDepth 100000 in
set_option maxHeartbeats 3200000 in
theorem adrop_calls (h : Qa w O M v l) (p : Int) (hp : (key p).wf = true) (hl : l.length ≤ 10000) :
    Calls Try.prog 49 #[pt O, .int .i64 p] w fun e w' => DropOut w O M v l p e w' := by
  obtain ⟨f, h1, h2⟩ := h.ex
  have c1 := h1.ag.c1
  obtain ⟨c, t, hrun, hc⟩ := h1.ag.look p hp
  have HC := hid hc
  have H2 := hid h2
  have HQ := hid h
  have H1 := hid h1
  clear h h1 h2 hc
  cases t
  · have HN := hid (show ∀ x ∈ l, x.1 ≠ p from fun x hx => by
      obtain ⟨k, hk, rfl⟩ := (H2.out x).1 hx
      rcases HC.out with ⟨h, _⟩ | ⟨_, h⟩
      · cases h
      · exact h k hk)
    have FN := hid (show PutOut w O M v (wo l p) w from by rw [wo_none HN.out]; exact PutOut.below HQ.out (Below.refl _ _))
    go_enter Try.func49, Try.ntmps49
    go_wp2_with fail
    go_ret
    exact ⟨_, rfl, ⟨fun h => (by cases h), fun ⟨x, hx, hq⟩ => absurd hq (HN.out x hx)⟩, FN.out⟩
  · obtain ⟨k, rfl, hk, hq⟩ : ∃ k : Nat, c = k ∧ k < l.length ∧ (f k).1 = p := by
      rcases HC.out with ⟨_, h⟩ | ⟨h, _⟩
      · exact h
      · cases h
    obtain ⟨n, hn⟩ : ∃ n, l.length = n + 1 := ⟨l.length - 1, by omega⟩
    have HP := hid hq
    have HN := hid hn
    have HX := hid (show ∃ x ∈ l, x.1 = p from ⟨f k, (H2.out _).2 ⟨k, hk, rfl⟩, hq⟩)
    have H3 := hid (show Hq w O v M (n + 1) f from by rw [← hn]; exact H1.out)
    have hk' : k < n + 1 := by omega
    have hn' : n ≤ 10000 := by omega
    clear hq hn hk hl HC H1
    go_enter Try.func49, Try.ntmps49
    go_wp2_with fail
    refine (hremove_calls H3.out hk' hn').mono ?_
    rintro e w1 o1
    obtain ⟨he, v1, q1, s1, m1⟩ := less_out HQ.out.dis H2.out HN.out hk' HP.out o1
    subst he
    have FN := hid (show PutOut w O M v (wo l p) w1 from ⟨v1, q1, fun k e => .inl (s1.symm.trans e), m1⟩)
    clear o1 q1 s1 m1
    go_wp2_with fail
    go_ret
    exact ⟨_, rfl, ⟨fun _ => HX.out, fun _ => rfl⟩, FN.out⟩
def TakeOut (w : World) (O M : Nat) (v : Value) (l : List Ent) (e : Ending) (w' : World) : Prop :=
  (l = [] ∧ e = .returned (.tuple #[va (0, 0, 0), .bool false]) ∧ PutOut w O M v [] w') ∨ (∃ x, x ∈ l ∧ (∀ y ∈ l, ¬ lt y x) ∧ e = .returned (.tuple #[va x, .bool true]) ∧ PutOut w O M v (wo l x.1) w')
set_option maxRecDepth 100000 in
set_option maxHeartbeats 3200000 in
theorem atake_nil (w : World) : Calls Try.prog 32 #[.pointer none] w fun e w' => e = .returned (.tuple #[va (0, 0, 0), .bool false]) ∧ Below w.heap.size w w' := by
  have B0 := hid ((Below.refl w.heap.size w).alloc (Nat.le_refl _) (.cells #[.int .i64 0, .int .i64 0, .int .i64 0] 63))
  obtain ⟨W, hW⟩ : ∃ W, w.alloc (.cells #[.int .i64 0, .int .i64 0, .int .i64 0] 63) = W := ⟨_, rfl⟩
  have hr0 : W.heap[w.heap.size]? = some (.cells #[.int .i64 0, .int .i64 0, .int .i64 0] 63 (0, 0)) := by rw [← hW]; exact heap_alloc_new w _
  rw [hW] at B0
  obtain ⟨⟨p0, q0⟩, ⟨u1, v1⟩, ⟨u2, v2⟩, ⟨r0, r1, r2⟩, rb⟩ := ret_e hr0 (.int .i64 0) (.int .i64 0) (.int .i64 0)
  clear rb
  have BB := hid (below_e B0.out (R := w.heap.size) (Nat.le_refl _) (.int .i64 0) (.int .i64 0) (.int .i64 0))
  clear hr0
  go_enter Try.func32, Try.ntmps32
  go_wp2_with fail
  refine (alen_nil _).mono ?_
  rintro e w1 ⟨rfl, hw1⟩
  subst hw1
  go_wp2_with fail
  refine bodyPost_ret (v := .tuple #[.agg #[.int .i64 0, .int .i64 0, .int .i64 0], .bool false]) (by simp [results, Try.results32, go_sem, r0, r1, r2]) rfl ?_
  exact ⟨rfl, BB.out⟩
theorem take_fin {w w1 : World} (hL : ∀ k, own O M v k → k < w.heap.size) {W : World} (hB : Below w.heap.size w W) {v4 : Value} (q : Qa w1 O M v4 l) (s : v4.ownBlock = v.ownBlock) (m : Mut (own O M v) W w1) (a b c : Value) :
    PutOut w O M v l (((w1.setCell ⟨w.heap.size, 0, none⟩ a).setCell ⟨w.heap.size, 1, none⟩ b).setCell ⟨w.heap.size, 2, none⟩ c) := by
  have me := mut_e w1 w.heap.size a b c (S := fun k => k = w.heap.size) rfl
  exact ⟨v4, q.kept me (fun k hk e => by
    have h : own O M v k := by rw [← own_same (O := O) (M := M) s]; exact hk
    have := hL k h
    omega), fun k e => .inl (s.symm.trans e), ((Mut.ofBelow hB _).trans m (fun _ _ e => e)).trans me (fun k hk e => by omega)⟩
set_option maxRecDepth 100000 in
set_option maxHeartbeats 3200000 in
theorem atake_calls (h : Qa w O M v l) (hl : l.length ≤ 10000) :
    Calls Try.prog 32 #[pt O] w fun e w' => TakeOut w O M v l e w' := by
  obtain ⟨f, h1, h2⟩ := h.ex
  have HL := hid (show ∀ k, own O M v k → k < w.heap.size from fun k hk => h.lt hk)
  have B0 := hid ((Below.refl w.heap.size w).alloc (Nat.le_refl _) (.cells #[.int .i64 0, .int .i64 0, .int .i64 0] 63))
  obtain ⟨W, hW⟩ : ∃ W, w.alloc (.cells #[.int .i64 0, .int .i64 0, .int .i64 0] 63) = W := ⟨_, rfl⟩
  have hr0 : W.heap[w.heap.size]? = some (.cells #[.int .i64 0, .int .i64 0, .int .i64 0] 63 (0, 0)) := by rw [← hW]; exact heap_alloc_new w _
  rw [hW] at B0
  have HQ := hid (h.below (by rw [← hW]; exact (Below.refl w.heap.size w).alloc (Nat.le_refl _) _) : Qa W O M v l)
  have H1 := hid (h1.below (by rw [← hW]; exact (Below.refl w.heap.size w).alloc (Nat.le_refl _) _) : Hq W O v M l.length f)
  have H2 := hid h2
  have H0 := hid h
  have HR := hid hr0
  clear h h1 h2
  obtain ⟨N, hN⟩ : ∃ N : Int, N = l.length := ⟨_, rfl⟩
  by_cases h0 : l.length = 0
  · have hl0 : l = [] := List.eq_nil_of_length_eq_zero h0
    have hN0 : N = 0 := by omega
    obtain ⟨⟨p0, q0⟩, ⟨u1, v1⟩, ⟨u2, v2⟩, ⟨r0, r1, r2⟩, rb⟩ := ret_e hr0 (.int .i64 0) (.int .i64 0) (.int .i64 0)
    clear rb
    have FN := hid (show PutOut w O M v [] _ from take_fin HL.out B0.out (hl0 ▸ HQ.out) rfl (Mut.refl _ W) (.int .i64 0) (.int .i64 0) (.int .i64 0))
    have HE := hid hl0
    clear hr0 h0 hl0
    go_enter Try.func32, Try.ntmps32
    go_wp2_with fail
    clear hW
    refine (alen_calls HQ.out).mono ?_
    rintro e w1 ⟨rfl, hw1⟩
    subst hw1
    rw [← hN, hN0]
    clear hN hN0
    go_wp2_with fail
    refine bodyPost_ret (v := .tuple #[.agg #[.int .i64 0, .int .i64 0, .int .i64 0], .bool false]) (by simp [results, Try.results32, go_sem, r0, r1, r2]) rfl ?_
    exact .inl ⟨HE.out, rfl, FN.out⟩
  · obtain ⟨n, hn⟩ : ∃ n, l.length = n + 1 := ⟨l.length - 1, by omega⟩
    have t0 : (N == 0) = false := by simp; omega
    have hn' : n ≤ 10000 := by omega
    have HN := hid hn
    have H3 := hid (show Hq W O v M (n + 1) f from by rw [← hn]; exact H1.out)
    have HX := hid (show f 0 ∈ l ∧ (∀ y ∈ l, ¬ lt y (f 0)) from ⟨(H2.out _).2 ⟨0, by omega, rfl⟩, fun y hy => by
      obtain ⟨k, hk, rfl⟩ := (H2.out y).1 hy
      exact H1.out.hp.root lt_ord k hk⟩)
    clear hn H1 hr0 h0
    have HN2 := hid hN
    go_enter Try.func32, Try.ntmps32
    go_wp2_with fail
    clear hW
    refine (alen_calls HQ.out).mono ?_
    rintro e w1 ⟨rfl, hw1⟩
    subst hw1
    rw [← hN]
    clear hN HN2
    go_wp2_with fail
    refine (hpop_calls H3.out hn').mono ?_
    rintro e w2 o2
    obtain ⟨he, v2, q2, s2, m2⟩ := less_out HQ.out.dis H2.out HN.out (by omega) rfl o2
    subst he
    have hr2 : w2.heap[w.heap.size]? = some (.cells #[.int .i64 0, .int .i64 0, .int .i64 0] 63 (0, 0)) := (m2.block _ (Array.getElem?_eq_some_iff.1 HR.out).1 (fun e => by have := HL.out _ e; omega)).trans HR.out
    have Q2 := hid q2
    have S2 := hid s2
    have M2 := hid m2
    clear o2 q2 s2 m2
    obtain ⟨⟨x0, x1, x2⟩, hx⟩ : ∃ x, f 0 = x := ⟨_, rfl⟩
    rw [hx] at HX Q2 ⊢
    clear hx
    unfold va
    have hta := ta_e x0 x1 x2
    obtain ⟨⟨p0, q0⟩, ⟨u1, v1⟩, ⟨u2, v2⟩, ⟨r0, r1, r2⟩, rb⟩ := ret_e hr2 (.int .i64 x0) (.int .i64 x1) (.int .i64 x2)
    clear rb
    have FN := hid (show PutOut w O M v (wo l x0) _ from take_fin HL.out B0.out Q2.out S2.out M2.out (.int .i64 x0) (.int .i64 x1) (.int .i64 x2))
    clear hr2
    go_wp2_with fail
    refine bodyPost_ret (v := .tuple #[.agg #[.int .i64 x0, .int .i64 x1, .int .i64 x2], .bool true]) (by simp [results, Try.results32, go_sem, r0, r1, r2]) rfl ?_
    exact .inr ⟨_, HX.out.1, HX.out.2, rfl, FN.out⟩
end
end Go.Proofs.Ytcjakjmhghoilaa

/-
  Agendas beside what lies apart from them.
-/
namespace Go.Proofs.Ytcjakjmhghoilaa
open Go.RowKit Go.Maps Hp
set_option linter.unusedVariables false
/-! ### An agenda beside what lies apart from it -/
structure Sq (w0 w : World) (O M : Nat) (v : Value) (l : List Ent) (X : Nat → Prop) : Prop where
  q : Qa w O M v l
  base : ∀ k, own O M v k → w0.heap.size ≤ k
  below : Below w0.heap.size w0 w
  apart : ∀ k, X k → k < w.heap.size ∧ ¬ own O M v k
section
variable {w0 w w' : World} {O M : Nat} {v v' : Value} {l l' : List Ent} {X X' : Nat → Prop}
/-- What a call upon it leaves. -/
def SOut (w0 : World) (O M : Nat) (v : Value) (l : List Ent) (X : Nat → Prop) (w w' : World) : Prop := ∃ v', Sq w0 w' O M v' l X ∧ (∀ k, X k → w'.heap[k]? = w.heap[k]?) ∧ Mut (own O M v) w w'
theorem own_step (h : Same w v v') {k : Nat} (hk : own O M v' k) : own O M v k ∨ w.heap.size ≤ k := by
  rcases hk with h1 | h1 | h1
  · exact .inl (.inl h1)
  · exact .inl (.inr (.inl h1))
  · exact (h k h1).imp (fun e => .inr (.inr e)) id
theorem Sq.step (h : Sq w0 w O M v l X) (o : PutOut w O M v l' w') : SOut w0 O M v l' X w w' := by
  obtain ⟨v', q, s, m⟩ := o
  refine ⟨v', ⟨q, fun k hk => ?_, ?_, fun k hk => ?_⟩, fun k hk => m.block k (h.apart k hk).1 (h.apart k hk).2, m⟩
  · rcases own_step s hk with h1 | h1
    · exact h.base k h1
    · exact Nat.le_trans h.below.size h1
  · exact h.below.trans (m.below h.below.size h.base)
  · obtain ⟨h1, h2⟩ := h.apart k hk
    refine ⟨Nat.lt_of_lt_of_le h1 m.size, fun e => ?_⟩
    rcases own_step s e with h3 | h3
    · exact h2 h3
    · omega
theorem Sq.grow (h : Sq w0 w O M v l X) (hb : Below w.heap.size w w') (hX : ∀ k, X' k → X k ∨ (w.heap.size ≤ k ∧ k < w'.heap.size)) : Sq w0 w' O M v l X' :=
  ⟨h.q.below hb, h.base, h.below.trans (hb.mono h.below.size), fun k hk => by
    rcases hX k hk with h1 | ⟨h1, h2⟩
    · exact ⟨Nat.lt_of_lt_of_le (h.apart k h1).1 hb.size, (h.apart k h1).2⟩
    · exact ⟨h2, fun e => by have := h.q.lt e; omega⟩⟩
theorem Sq.fewer (h : Sq w0 w O M v l X) (hX : ∀ k, X' k → X k) : Sq w0 w O M v l X' := ⟨h.q, h.base, h.below, fun k hk => h.apart k (hX k hk)⟩
theorem Sq.keep (h : Sq w0 w O M v l X) {S : Nat → Prop} (hm : Mut S w w') (hS : ∀ k, S k → X k) (hb : ∀ k, S k → w0.heap.size ≤ k) : Sq w0 w' O M v l X :=
  ⟨h.q.kept hm (fun k hk e => (h.apart k (hS k e)).2 hk), h.base, h.below.trans (hm.below h.below.size hb), fun k hk => ⟨Nat.lt_of_lt_of_le (h.apart k hk).1 hm.size, (h.apart k hk).2⟩⟩
theorem snew (w0 w : World) (hb : Below w0.heap.size w0 w) : Calls Try.prog 45 #[] w fun e w' => ∃ O M v, e = .returned (pt O) ∧ Sq w0 w' O M v [] (fun _ => False) ∧ w.heap.size ≤ O ∧ w.heap.size ≤ M ∧ v.ownBlock = none ∧ Below w.heap.size w w' := by
  refine (qnew_calls w).mono ?_
  rintro e w' ⟨O, M, v, he, q, hO, hM, hv, b⟩
  refine ⟨O, M, v, he, ⟨q, ?_, hb.trans (b.mono hb.size), fun k e => e.elim⟩, hO, hM, hv, b⟩
  have := hb.size
  rintro k (rfl | rfl | e)
  · omega
  · omega
  · rw [hv] at e; cases e
theorem sput (h : Sq w0 w O M v l X) (x : Ent) (hx : (key x.1).wf = true) (hl : l.length < 10000) : Calls Try.prog 57 #[pt O, va x] w fun e w' => e = .returned (.tuple #[]) ∧ SOut w0 O M v (put l x) X w w' :=
  (aput_calls h.q x hx hl).mono fun e w' ⟨he, o⟩ => ⟨he, h.step o⟩
def STake (w0 : World) (O M : Nat) (v : Value) (l : List Ent) (X : Nat → Prop) (w : World) (e : Ending) (w' : World) : Prop :=
  (l = [] ∧ e = .returned (.tuple #[va (0, 0, 0), .bool false]) ∧ SOut w0 O M v [] X w w') ∨ (∃ x, x ∈ l ∧ (∀ y ∈ l, ¬ lt y x) ∧ e = .returned (.tuple #[va x, .bool true]) ∧ SOut w0 O M v (wo l x.1) X w w')
theorem stake (h : Sq w0 w O M v l X) (hl : l.length ≤ 10000) : Calls Try.prog 32 #[pt O] w fun e w' => STake w0 O M v l X w e w' := by
  refine (atake_calls h.q hl).mono ?_
  rintro e w' (⟨h1, h2, h3⟩ | ⟨x, h1, h2, h3, h4⟩)
  · exact .inl ⟨h1, h2, h.step h3⟩
  · exact .inr ⟨x, h1, h2, h3, h.step h4⟩
def SDrop (w0 : World) (O M : Nat) (v : Value) (l : List Ent) (X : Nat → Prop) (p : Int) (w : World) (e : Ending) (w' : World) : Prop :=
  ∃ t, e = .returned (.bool t) ∧ (t = true ↔ ∃ x ∈ l, x.1 = p) ∧ SOut w0 O M v (wo l p) X w w'
theorem sdrop (h : Sq w0 w O M v l X) (p : Int) (hp : (key p).wf = true) (hl : l.length ≤ 10000) : Calls Try.prog 49 #[pt O, .int .i64 p] w fun e w' => SDrop w0 O M v l X p w e w' := by
  refine (adrop_calls h.q p hp hl).mono ?_
  rintro e w' ⟨t, h1, h2, h3⟩
  exact ⟨t, h1, h2, h.step h3⟩
end
/-- A block that is kept, and an entry in it. -/
def Bl (w : World) (K : Nat) (x : Ent) : Prop := w.heap[K]? = some (.cells #[.int .i64 x.1, .int .i64 x.2.1, .int .i64 x.2.2] 63 (0, 0))
theorem Bl.c0 {w : World} {K : Nat} {x : Ent} (h : Bl w K x) : w.cell? ⟨K, 0, none⟩ = some (.int .i64 x.1) := by simp only [World.cell?, show w.heap[K]? = _ from h]; rfl
theorem Bl.c1 {w : World} {K : Nat} {x : Ent} (h : Bl w K x) : w.cell? ⟨K, 1, none⟩ = some (.int .i64 x.2.1) := by simp only [World.cell?, show w.heap[K]? = _ from h]; rfl
theorem Bl.c2 {w : World} {K : Nat} {x : Ent} (h : Bl w K x) : w.cell? ⟨K, 2, none⟩ = some (.int .i64 x.2.2) := by simp only [World.cell?, show w.heap[K]? = _ from h]; rfl
theorem Bl.lt {w : World} {K : Nat} {x : Ent} (h : Bl w K x) : K < w.heap.size := (Array.getElem?_eq_some_iff.1 h).1
theorem Bl.new (w : World) (x0 x1 x2 : Int) : Bl (w.alloc (.cells #[.int .i64 x0, .int .i64 x1, .int .i64 x2] 63)) w.heap.size (x0, x1, x2) := heap_alloc_new w _
theorem Bl.below {w w' : World} {K : Nat} {x : Ent} (h : Bl w K x) (hb : Below w.heap.size w w') : Bl w' K x := (hb.block K h.lt).trans h
theorem Bl.at {w w' : World} {K : Nat} {x : Ent} (h : Bl w K x) (hb : w'.heap[K]? = w.heap[K]?) : Bl w' K x := hb.trans h
theorem Bl.fz {w : World} {K : Nat} {x : Ent} (h : Bl w K x) (j : Nat) : w.frozen? ⟨K, j, none⟩ = false := by simp only [World.frozen?, show w.heap[K]? = _ from h]; rfl
end Go.Proofs.Ytcjakjmhghoilaa
