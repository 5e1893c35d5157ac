/-
  The walk of the law LetterOne.
-/
import Derived.Test.YtaejoleijmihhaaLeF
import Derived.Lib.QuietBelow
import Derived.Deep.QuietTactic
import Derived.BigQuiet
namespace Go.Proofs.Ytaejoleijmihhaa
open Go.RowKit
set_option linter.unusedVariables false

/-- The writing of what was read is the text. -/
theorem Le.WR.str {f g : Nat → Int} {n k : Nat} {s : ByteArray} (h : Le.WR f n g k) (hS : St s n f) : str (Le.wrF g k) (Le.wrN g k) = s := by
  rw [h.size]
  exact ((St.of (Le.wrF_bd h.bd k) n).congr hS.bd h.get).inj hS
theorem Le.WR.le {f g : Nat → Int} {n k : Nat} (h : Le.WR f n g k) : k ≤ n := by
  have := (Le.wrN_bd h.bd k).1
  rw [h.size] at this
  exact this

set_option maxRecDepth 100000 in
set_option maxHeartbeats 1600000 in
theorem letterOne_calls (s : ByteArray) (w : World) :
    Calls Try.prog 6 #[.string s] w fun e w' => e = .returned (.bool true) ∧ Below w.heap.size w w' := by
  obtain ⟨n, hn⟩ : ∃ n, s.size = n := ⟨_, rfl⟩
  have HS := hid (St.any s)
  rw [hn] at HS
  by_cases hbig : 1000 < n
  · have hb' : (1000 : Int) < n := by omega
    go_enter Try.func6, Try.ntmps6
    go_wp2_with fail
    refine (fixed04_calls _).mono ?_
    rintro e w' ⟨rfl, hb⟩
    go_wp2_with fail
    go_ret
    exact ⟨rfl, hb⟩
  have hb' : ¬ (1000 : Int) < n := by omega
  have hss : (s.toList == s.toList) = true := beq_self_eq_true _
  go_enter Try.func6, Try.ntmps6
  go_wp2_with fail
  refine (lread_calls s n (bytesF s) _ (by omega) HS.out).mono ?_
  rintro e w1 ⟨ho, hb1⟩
  have B1 := hid hb1
  clear hb1
  rcases ho with ⟨g, k, hg, a, c, rfl, hsl⟩ | ⟨p, hp, rfl⟩
  · have SL := hid hsl
    have HE := hid (hg.str HS.out)
    have hkn := hg.le
    clear hg hsl
    go_wp2_with fail
    refine (fixed04_calls _).mono ?_
    rintro e w2 ⟨rfl, hb2⟩
    have B2 := hid (B1.out.trans (hb2.mono B1.out.size))
    have SL2 := hid (SL.out.below hb2)
    clear hb2
    go_wp2_with fail
    refine (lwrite_calls _ _ _ _ _ (by omega) SL2.out).mono ?_
    rintro e w3 ⟨rfl, hb3⟩
    rw [HE.out]
    have B3 := hid (B2.out.trans (hb3.mono B2.out.size))
    clear hb3
    go_wp2_with fail
    go_ret
    exact ⟨rfl, B3.out⟩
  · obtain ⟨hpn, ⟨g0, k0, hg0⟩, _⟩ := hp
    have hp0 : (0 : Int) ≤ p := by omega
    have hp1 : (p : Int) < n := by omega
    have hp1' : ¬ (n : Int) ≤ p := by omega
    have hp1n : ¬ n ≤ p := by omega
    have hp2 : (p : Int) ≤ n := by omega
    have HX : Hid (St (s.extract 0 p) p (bytesF s)) := by
      have := HS.out.extract 0 p (by omega) (by omega)
      simp only [Nat.zero_add, Nat.sub_zero] at this
      exact this
    have HG0 := hid hg0
    clear hg0
    go_wp2_with fail
    refine (lread_calls _ p (bytesF s) _ (by omega) HX.out).mono ?_
    rintro e w2 ⟨ho2, hb2⟩
    have B2 := hid (B1.out.trans (hb2.mono B1.out.size))
    clear hb2
    rcases ho2 with ⟨g, k, hg, a, c, rfl, hsl⟩ | ⟨q, hq, rfl⟩
    rotate_left
    · exact (Le.bad_not HG0.out hq).elim
    have SL := hid hsl
    have HE := hid (hg.str HX.out)
    have hkn := hg.le
    clear hg hsl
    have cF : ∀ d os, Calls Try.prog 11 #[] (Sort.grow (redrawn w2 d) os) fun e w'' => e = .returned (.bool true) ∧ ∃ p : Regrown, w'' = Sort.grow (redrawn w2 p.d) p.os := fun d os => Calls.regrown_of (fixed04_calls _)
    have cW : ∀ d os, Calls Try.prog 13 #[.slice a k c] (Sort.grow (redrawn w2 d) os) fun e w'' => e = .returned (.string (s.extract 0 p)) ∧ ∃ p : Regrown, w'' = Sort.grow (redrawn w2 p.d) p.os := fun d os => by
      refine Calls.regrown_of ?_
      have := lwrite_calls _ _ _ _ (Sort.grow (redrawn w2 d) os) (by omega) (SL.out.below (below_regrown _ d os))
      rw [HE.out] at this
      exact this
    have hxx : ((s.extract 0 p).toList == (s.extract 0 p).toList) = true := beq_self_eq_true _
    clear HE
    go_wp2_with fail
    refine wp_region_quiet_below (by kernel_rfl) (by kernel_rfl) ?_
    repeat (any_goals (first | go_big_quiet_step (first | exact cF _ _ | exact cW _ _) | quiet_step (first | exact cF _ _ | exact cW _ _)))
    refine wpQuiet_nil ?_
    intro _ hw'
    obtain ⟨⟨dq, osq⟩, hw''⟩ := hw'
    subst hw''
    go_wp2_with fail
    all_goals go_ret
    refine ⟨rfl, B2.out.trans ((below_regrown _ dq osq).mono B2.out.size)⟩
end Go.Proofs.Ytaejoleijmihhaa
