/-
  Walks of the library's heap over an agenda's row: Push, Fix, Remove, Pop.
-/
import Derived.Test.YtadkiikakgmpnaaQuH2
namespace Go.Proofs.Ytadkiikakgmpnaa
open Go.RowKit Go.Maps Hp
set_option linter.unusedVariables false
/-- A row that is a heap. -/
structure Hq (w : World) (O : Nat) (v : Value) (M n : Nat) (f : Nat → Ent) : Prop where
  ag : Ag w O v M n f
  hp : Heap lt f n
/-- What is left of a row when a place's entry is taken out. -/
structure Less (f g : Nat → Ent) (n i : Nat) : Prop where
  cont : ∀ e, Cont g n e ↔ (Cont f (n + 1) e ∧ e.1 ≠ (f i).1)
theorem cont_snoc {f : Nat → Ent} {n : Nat} {x : Ent} (e : Ent) : Cont (fun k => if k < n then f k else x) (n + 1) e ↔ (Cont f n e ∨ e = x) := by
  constructor
  · rintro ⟨k, hk, rfl⟩
    by_cases h : k < n
    · simp only [h, if_true]; exact .inl ⟨k, h, rfl⟩
    · simp only [h, if_false]; exact .inr trivial
  · rintro (⟨k, hk, rfl⟩ | rfl)
    · exact ⟨k, by omega, by simp only [hk, if_true]⟩
    · exact ⟨n, by omega, by simp⟩
section
variable {w : World} {O M n m : Nat} {v : Value} {f : Nat → Ent}
/-- What Push leaves. -/
def PsOut (w : World) (O M n : Nat) (v : Value) (f : Nat → Ent) (x : Ent) (w' : World) : Prop :=
  ∃ v' g, Hq w' O v' M (n + 1) g ∧ (∀ e, Cont g (n + 1) e ↔ (Cont f n e ∨ e = x)) ∧ Same w v v' ∧ Mut (own O M v) w w'
set_option maxRecDepth 100000 in
set_option maxHeartbeats 3200000 in
theorem hpush_calls (h : Hq w O v M n f) (x : Ent) (hx : (key x.1).wf = true) (hno : ∀ k, k < n → (f k).1 ≠ x.1) (hn : n ≤ 10000) :
    Calls Try.prog 17 #[ifc O, .iface 28 (va x)] w fun e w' => e = .returned (.tuple #[]) ∧ PsOut w O M n v f x w' := by
  have HH := hid h
  have HNo := hid hno
  have ml := m_len O
  have mp := m_push O
  clear h hno
  go_enter Try.func17, Try.ntmps17
  go_wp2_with fail
  refine (push_calls HH.out.ag x hx HNo.out (by omega)).mono ?_
  rintro e w1 ⟨rfl, v1, a1, s1, m1⟩
  have A1 := hid a1
  have S1 := hid s1
  have M1 := hid m1
  clear a1 s1 m1
  go_wp2_with fail
  refine (wlen_calls A1.out).mono ?_
  rintro e w2 ⟨rfl, hw2⟩
  subst hw2
  obtain ⟨N, hN⟩ : ∃ N : Int, N = ((n + 1 : Nat) : Int) := ⟨_, rfl⟩
  have e1 : IntKind.i64.wrap (N - 1) = (n : Int) := by rw [i64_in (by omega) (by omega)]; omega
  rw [← hN]
  clear hN
  go_wp2_with fail
  refine (up_calls A1.out (m := n + 1) (j0 := n) (Nat.le_refl _) (by omega) (by omega) (push_inv HH.out.hp x)).mono ?_
  rintro e w3 ⟨rfl, g, a3, h3, x3, m3⟩
  have FN := hid (show PsOut w O M n v f x w3 from ⟨v1, g, ⟨a3, h3⟩, fun e => (x3.cont e).trans (cont_snoc e), S1.out, M1.out.trans m3 (fun k hk e => by
    rcases e with e | e | e
    · exact .inl e
    · exact .inr (.inl e)
    · rcases S1.out k e with h | h
      · exact .inr (.inr h)
      · omega)⟩)
  clear a3 h3 x3 m3
  go_wp2_with fail
  go_end0
  exact ⟨rfl, FN.out⟩
/-- What Fix leaves. -/
def FxOut (w : World) (O M n : Nat) (v : Value) (f : Nat → Ent) (w' : World) : Prop :=
  ∃ g, Hq w' O v M n g ∧ (∀ e, Cont g n e ↔ Cont f n e) ∧ Mut (own O M v) w w'
set_option maxRecDepth 100000 in
set_option maxHeartbeats 3200000 in
theorem hfix_calls (h : Ag w O v M n f) {i : Nat} (hi : i < n) (hD : DInv lt f n i False) (hn : n ≤ 10000) :
    Calls Try.prog 18 #[ifc O, .int .i64 (i : Int)] w fun e w' => e = .returned (.tuple #[]) ∧ FxOut w O M n v f w' := by
  have HH := hid h
  have HD := hid hD
  have ml := m_len O
  clear h hD
  go_enter Try.func18, Try.ntmps18
  go_wp2_with fail
  refine (wlen_calls HH.out).mono ?_
  rintro e w2 ⟨rfl, hw2⟩
  subst hw2
  go_wp2_with fail
  refine (down_calls HH.out (m := n) (i0 := i) (Nat.le_refl _) (by omega) (by omega) HD.out).mono ?_
  rintro e w3 ⟨b, g, rfl, a3, x3, m3, _, h3, u3⟩
  have A3 := hid a3
  have X3 := hid x3
  have M3 := hid m3
  have H3 := hid h3
  have U3 := hid u3
  clear a3 x3 m3 h3 u3
  cases b
  · go_wp2_with fail
    refine (up_calls A3.out (m := n) (j0 := i) (Nat.le_refl _) hi (by omega) (U3.out (by trivial))).mono ?_
    rintro e w4 ⟨rfl, g4, a4, h4, x4, m4⟩
    have FN := hid (show FxOut w2 O M n v f w4 from ⟨g4, ⟨a4, h4⟩, fun e => (x4.cont e).trans (X3.out.cont e), M3.out.trans m4 (fun _ _ e => e)⟩)
    clear a4 h4 x4 m4
    go_wp2_with fail
    go_end0
    exact ⟨rfl, FN.out⟩
  · have FN := hid (show FxOut w2 O M n v f w3 from ⟨g, ⟨A3.out, H3.out rfl⟩, X3.out.cont, M3.out⟩)
    go_wp2_with fail
    go_end0
    exact ⟨rfl, FN.out⟩
/-- What Pop and Remove leave. -/
def RmOut' (w : World) (O M n i : Nat) (v : Value) (f : Nat → Ent) (e : Ending) (w' : World) : Prop :=
  e = .returned (.iface 28 (va (f i))) ∧ ∃ v' g, Hq w' O v' M n g ∧ Less f g n i ∧ v'.ownBlock = v.ownBlock ∧ Mut (own O M v) w w'
theorem own_same {v v' : Value} (h : v'.ownBlock = v.ownBlock) : own O M v' = own O M v := by unfold own; rw [h]
set_option maxRecDepth 100000 in
set_option maxHeartbeats 3200000 in
theorem hpop_calls (h : Hq w O v M (n + 1) f) (hn : n ≤ 10000) :
    Calls Try.prog 20 #[ifc O] w fun e w' => RmOut' w O M n 0 v f e w' := by
  have HH := hid h
  have ml := m_len O
  have ms := m_swap O
  have mp := m_pop O
  clear h
  go_enter Try.func20, Try.ntmps20
  go_wp2_with fail
  refine (wlen_calls HH.out.ag).mono ?_
  rintro e w1 ⟨rfl, hw1⟩
  subst hw1
  obtain ⟨N, hN⟩ : ∃ N : Int, N = ((n + 1 : Nat) : Int) := ⟨_, rfl⟩
  have e1 : IntKind.i64.wrap (N - 1) = (n : Int) := by rw [i64_in (by omega) (by omega)]; omega
  rw [← hN]
  clear hN
  go_wp2_with fail
  refine (swap_calls HH.out.ag (i := 0) (j := n) (by omega) (by omega) (by omega)).mono ?_
  rintro e w2 ⟨rfl, a2, m2⟩
  have A2 := hid a2
  have M2 := hid m2
  have D2 := hid (show DInv lt (swp f 0 n) n 0 True from by
    rcases Nat.eq_zero_or_pos n with h0 | h0
    · subst h0; exact ⟨fun k _ hk => by omega, fun k _ hk => by omega⟩
    · exact (cut_inv lt_ord HH.out.hp h0).root)
  clear a2 m2
  go_wp2_with fail
  refine (down_calls A2.out (m := n) (i0 := 0) (by omega) (Nat.zero_le _) (by omega) D2.out).mono ?_
  rintro e w3 ⟨b, g, rfl, a3, x3, m3, h3, _, _⟩
  have A3 := hid a3
  have X3 := hid x3
  have M3 := hid (M2.out.trans m3 (fun _ _ e => e))
  have H3 := hid (h3 trivial)
  have hlast : g n = f 0 := by rw [x3.far n (Nat.le_refl _), swp_r]
  have HL := hid hlast
  have HC := hid (fun e => (x3.cont e).trans (cut_cont HH.out.ag.inj (Nat.zero_le n) e))
  clear a3 x3 m3 h3 hlast
  go_wp2_with fail
  refine (pop_calls A3.out (by omega)).mono ?_
  rintro e w4 ⟨rfl, v4, a4, s4, m4⟩
  have FN := hid (show RmOut' w1 O M n 0 v f (.returned (.iface 28 (va (g n)))) w4 from ⟨by rw [HL.out], v4, g, ⟨a4, H3.out⟩, ⟨HC.out⟩, s4, M3.out.trans m4 (fun _ _ e => e)⟩)
  clear a4 s4 m4
  go_wp2_with fail
  go_ret
  exact FN.out
set_option maxRecDepth 100000 in
set_option maxHeartbeats 3200000 in
theorem hremove_calls (h : Hq w O v M (n + 1) f) {i : Nat} (hi : i < n + 1) (hn : n ≤ 10000) :
    Calls Try.prog 19 #[ifc O, .int .i64 (i : Int)] w fun e w' => RmOut' w O M n i v f e w' := by
  have HH := hid h
  have ml := m_len O
  have ms := m_swap O
  have mp := m_pop O
  clear h
  go_enter Try.func19, Try.ntmps19
  go_wp2_with fail
  refine (wlen_calls HH.out.ag).mono ?_
  rintro e w1 ⟨rfl, hw1⟩
  subst hw1
  obtain ⟨N, hN⟩ : ∃ N : Int, N = ((n + 1 : Nat) : Int) := ⟨_, rfl⟩
  have e1 : IntKind.i64.wrap (N - 1) = (n : Int) := by rw [i64_in (by omega) (by omega)]; omega
  rw [← hN]
  clear hN
  by_cases hin : n = i
  · have t0 : ((n : Int) == (i : Int)) = true := by subst hin; simp
    have HI := hid hin
    clear hin
    go_wp2_with fail
    refine (pop_calls HH.out.ag (by omega)).mono ?_
    rintro e w4 ⟨rfl, v4, a4, s4, m4⟩
    have FN := hid (show RmOut' w1 O M n i v f (.returned (.iface 28 (va (f n)))) w4 from ⟨by rw [HI.out], v4, f, ⟨a4, HH.out.hp.sub (by omega)⟩, ⟨fun e => by
      rw [← HI.out]
      have := cut_cont HH.out.ag.inj (Nat.le_refl n) e
      rw [show swp f n n = f from by funext k; unfold swp; split <;> simp_all] at this
      exact this⟩, s4, m4⟩)
    clear a4 s4 m4
    go_wp2_with fail
    go_ret
    exact FN.out
  · have t0 : ((n : Int) == (i : Int)) = false := by simp; omega
    have hlt : i < n := by omega
    clear hin
    go_wp2_with fail
    refine (swap_calls HH.out.ag (i := i) (j := n) (by omega) (by omega) (by omega)).mono ?_
    rintro e w2 ⟨rfl, a2, m2⟩
    have A2 := hid a2
    have M2 := hid m2
    have D2 := hid (cut_inv lt_ord HH.out.hp hlt)
    clear a2 m2
    go_wp2_with fail
    refine (down_calls A2.out (m := n) (i0 := i) (by omega) (by omega) (by omega) D2.out).mono ?_
    rintro e w3 ⟨b, g, rfl, a3, x3, m3, _, h3, u3⟩
    have A3 := hid a3
    have M3 := hid (M2.out.trans m3 (fun _ _ e => e))
    have HL := hid (show g n = f i by rw [x3.far n (Nat.le_refl _), swp_r])
    have HC := hid (fun e => (x3.cont e).trans (cut_cont HH.out.ag.inj (show i ≤ n by omega) e))
    have H3 := hid h3
    have U3 := hid u3
    clear a3 x3 m3 h3 u3
    cases b
    · go_wp2_with fail
      refine (up_calls A3.out (m := n) (j0 := i) (by omega) hlt (by omega) (U3.out (by trivial))).mono ?_
      rintro e w4 ⟨rfl, g4, a4, h4, x4, m4⟩
      have A4 := hid a4
      have M4 := hid (M3.out.trans m4 (fun _ _ e => e))
      have H4 := hid h4
      have L4 := hid ((x4.far n (Nat.le_refl _)).trans HL.out)
      have C4 := hid (fun e => (x4.cont e).trans (HC.out e))
      clear a4 h4 x4 m4
      go_wp2_with fail
      refine (pop_calls A4.out (by omega)).mono ?_
      rintro e w5 ⟨rfl, v5, a5, s5, m5⟩
      have FN := hid (show RmOut' w1 O M n i v f (.returned (.iface 28 (va (g4 n)))) w5 from ⟨by rw [L4.out], v5, g4, ⟨a5, H4.out⟩, ⟨C4.out⟩, s5, M4.out.trans m5 (fun _ _ e => e)⟩)
      clear a5 s5 m5
      go_wp2_with fail
      go_ret
      exact FN.out
    · have H4 := hid (H3.out rfl)
      go_wp2_with fail
      refine (pop_calls A3.out (by omega)).mono ?_
      rintro e w5 ⟨rfl, v5, a5, s5, m5⟩
      have FN := hid (show RmOut' w1 O M n i v f (.returned (.iface 28 (va (g n)))) w5 from ⟨by rw [HL.out], v5, g, ⟨a5, H4.out⟩, ⟨HC.out⟩, s5, M3.out.trans m5 (fun _ _ e => e)⟩)
      clear a5 s5 m5
      go_wp2_with fail
      go_ret
      exact FN.out
end
end Go.Proofs.Ytadkiikakgmpnaa
