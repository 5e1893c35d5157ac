/-
  The walk of the law UtfSame.
-/
import Derived.Test.YtbobdpklhhkniaaUtfE
import Derived.Test.YtbobdpklhhkniaaUtfMathE
import Derived.Deep.QuietTactic
import Derived.BigQuiet
import Derived.Lib.QuietBelow
namespace Go.Proofs.Ytbobdpklhhkniaa
open Go.RowKit
set_option linter.unusedVariables false

theorem Sl.drewN {w : World} {a : Option Addr} {n cap : Nat} {f : Nat → Int} (h : Sl w a n cap f) (k : Nat) : Sl (w.drewN k) a n cap f := ⟨h.le, h.mx, h.bd, h.nil, h.at'⟩

set_option maxHeartbeats 1000000 in
theorem utfSame_yes (p q : Int) (w : World) (hp : Utf.isPt p = true) (hq : Utf.isPt q = true) (mp mq : Nat) (S T : ByteArray) (b : Bool) (hnp : Utf.encN p = mp) (hnq : Utf.encN q = mq) (hS : str (Utf.encF p) mp = S) (hT : str (Utf.encF q) mq = T)
    (hs : S.size = mp) (ht : T.size = mq) (hn1 : mp ≤ 4) (hn2 : mq ≤ 4) (hne' : (p == q) = false) (hpq : decide (p < q) = b) (hL : Op.bytesLess S.toList T.toList = b) (hX : ((S.extract 0 (min mp mq)).toList == (T.extract 0 (min mp mq)).toList) = false) :
    Calls Try.prog 7 #[.int .i64 p, .int .i64 q] w fun e w' => e = .returned (.bool true) ∧ Below w.heap.size w w' := by
  have HP := hid hp
  have HQ := hid hq
  have HNP := hid hnp
  have HNQ := hid hnq
  have HS := hid hS
  have HT := hid hT
  clear hp hq hnp hnq hS hT
  go_enter Try.func7, Try.ntmps7
  go_wp2_with fail
  refine (encode_yes p _ HP.out).mono ?_
  rintro e w1 ⟨rfl, hw1⟩
  have bel1 : Below w.heap.size w w1 := by rw [hw1]; exact encW_below _ _ _
  have sl1 : Sl w1 (some ⟨w.heap.size, 0, none⟩) (Utf.encN p) (Utf.encN p) (Utf.encF p) := by rw [hw1]; exact encW_sl w _ HP.out
  clear hw1
  rw [HNP.out] at sl1
  rw [HNP.out]
  go_wp2_with fail
  refine (encode_yes q _ HQ.out).mono ?_
  rintro e w2 ⟨rfl, hw2⟩
  have bel2 : Below w1.heap.size w1 w2 := by rw [hw2]; exact encW_below _ _ _
  have sl2 : Sl w2 (some ⟨w1.heap.size, 0, none⟩) (Utf.encN q) (Utf.encN q) (Utf.encF q) := by rw [hw2]; exact encW_sl w1 _ HQ.out
  clear hw2
  rw [HNQ.out] at sl2
  rw [HNQ.out]
  have c1 := fun k => run_convert_sl (P := Try.prog) (w2.drewN k) 22 5 9 Try.underlying22 Try.underlying5 Try.underlying9 ((sl1.below bel2).drewN k)
  have c2 := fun k => run_convert_sl (P := Try.prog) (w2.drewN k) 22 5 9 Try.underlying22 Try.underlying5 Try.underlying9 (sl2.drewN k)
  rw [HS.out] at c1
  rw [HT.out] at c2
  have bel := bel1.trans (bel2.mono bel1.size)
  clear sl1 sl2 bel1 bel2
  go_wp2_with fail
  go_quiet (fail)
  clear c1 c2
  have cF : ∀ d os, Calls Try.prog 8 #[] (Sort.grow (redrawn (w2.drewN nq) d) os) fun e w'' => e = .returned (.bool true) ∧ ∃ p : Regrown, w'' = Sort.grow (redrawn (w2.drewN nq) p.d) p.os := fun d os => Calls.regrown_of (fixed_calls _)
  go_wp2_with fail
  refine wp_region_quiet_below (by kernel_rfl) (by kernel_rfl) ?_
  repeat (any_goals (first | go_big_quiet_step (exact cF _ _) | quiet_step (exact cF _ _)))
  refine wpQuiet_nil ?_
  intro _ hw'
  obtain ⟨⟨dq, osq⟩, hw''⟩ := hw'
  subst hw''
  go_wp2_with fail
  all_goals go_ret
  · refine ⟨ret_bool (by have := hX; rw [Nat.min_eq_right (by omega)] at this; rw [this]; rfl), bel.trans (((below_drewN (Below.refl _ _) nq).trans (below_regrown _ dq osq)).mono ?_)⟩
    exact bel.size
  · refine ⟨ret_bool (by have := hX; rw [Nat.min_eq_left (by omega)] at this; rw [this]; rfl), bel.trans (((below_drewN (Below.refl _ _) nq).trans (below_regrown _ dq osq)).mono ?_)⟩
    exact bel.size

set_option maxHeartbeats 1000000 in
theorem utfSame_eq (p : Int) (w : World) (hp : Utf.isPt p = true) :
    Calls Try.prog 7 #[.int .i64 p, .int .i64 p] w fun e w' => e = .returned (.bool true) ∧ Below w.heap.size w w' := by
  have HP := hid hp
  clear hp
  go_enter Try.func7, Try.ntmps7
  go_wp2_with fail
  refine (encode_yes p _ HP.out).mono ?_
  rintro e w1 ⟨rfl, hw1⟩
  have bel1 : Below w.heap.size w w1 := by rw [hw1]; exact encW_below _ _ _
  have sl1 : Sl w1 (some ⟨w.heap.size, 0, none⟩) (Utf.encN p) (Utf.encN p) (Utf.encF p) := by rw [hw1]; exact encW_sl w _ HP.out
  clear hw1
  go_wp2_with fail
  refine (encode_yes p _ HP.out).mono ?_
  rintro e w2 ⟨rfl, hw2⟩
  have bel2 : Below w1.heap.size w1 w2 := by rw [hw2]; exact encW_below _ _ _
  have sl2 : Sl w2 (some ⟨w1.heap.size, 0, none⟩) (Utf.encN p) (Utf.encN p) (Utf.encF p) := by rw [hw2]; exact encW_sl w1 _ HP.out
  clear hw2
  have S1 := hid (sl1.below bel2)
  have S2 := hid sl2
  have bel := bel1.trans (bel2.mono bel1.size)
  clear sl1 sl2 bel1 bel2
  go_wp2_with fail
  refine (fixed_calls _).mono ?_
  rintro e w3 ⟨rfl, hb⟩
  have c1 := run_convert_sl (P := Try.prog) w3 22 5 9 Try.underlying22 Try.underlying5 Try.underlying9 (S1.out.below hb)
  have c2 := run_convert_sl (P := Try.prog) w3 22 5 9 Try.underlying22 Try.underlying5 Try.underlying9 (S2.out.below hb)
  go_wp2_with fail
  go_ret
  exact ⟨rfl, bel.trans (hb.mono bel.size)⟩

set_option maxHeartbeats 1000000 in
theorem utfSame_no (p q : Int) (w : World) (h : Utf.isPt p = false ∨ Utf.isPt q = false) :
    Calls Try.prog 7 #[.int .i64 p, .int .i64 q] w fun e w' => e = .returned (.bool true) ∧ Below w.heap.size w w' := by
  have c0 := fun w => run_convert_bytes_nil (P := Try.prog) w 22 5 Try.underlying22 Try.underlying5 0 0 9 Try.underlying9
  cases hp : Utf.isPt p
  · have HP := hid hp
    clear hp h
    cases hq : Utf.isPt q
    · have HQ := hid hq
      clear hq
      by_cases e : p = q
      · subst e
        go_enter Try.func7, Try.ntmps7
        go_wp2_with fail
        refine (encode_no p _ HP.out).mono ?_
        rintro e w ⟨rfl, rfl⟩
        go_wp2_with fail
        refine (encode_no p _ HQ.out).mono ?_
        rintro e w ⟨rfl, rfl⟩
        go_wp2_with fail
        refine (fixed_calls _).mono ?_
        rintro e w3 ⟨rfl, hb⟩
        go_wp2_with fail
        go_ret
        exact ⟨rfl, hb⟩
      · have hne : (p == q) = false := by simpa using e
        have hne' : (p != q) = true := by simpa using e
        go_enter Try.func7, Try.ntmps7
        go_wp2_with fail
        refine (encode_no p _ HP.out).mono ?_
        rintro e w ⟨rfl, rfl⟩
        go_wp2_with fail
        refine (encode_no q _ HQ.out).mono ?_
        rintro e w ⟨rfl, rfl⟩
        go_wp2_with fail
        refine (fixed_calls _).mono ?_
        rintro e w3 ⟨rfl, hb⟩
        go_wp2_with fail
        go_ret
        exact ⟨rfl, hb⟩
    · have HQ := hid hq
      have e : p ≠ q := fun e => by rw [e, hq] at HP; cases HP.out
      have hne : (p == q) = false := by simpa using e
      have hne' : (p != q) = true := by simpa using e
      clear hq e
      go_enter Try.func7, Try.ntmps7
      go_wp2_with fail
      refine (encode_no p _ HP.out).mono ?_
      rintro e w ⟨rfl, rfl⟩
      go_wp2_with fail
      refine (encode_yes q _ HQ.out).mono ?_
      rintro e w2 ⟨rfl, hw2⟩
      have bel2 : Below w.heap.size w w2 := by rw [hw2]; exact encW_below _ _ _
      clear hw2
      go_wp2_with fail
      refine (fixed_calls _).mono ?_
      rintro e w3 ⟨rfl, hb⟩
      go_wp2_with fail
      go_ret
      exact ⟨rfl, bel2.trans (hb.mono bel2.size)⟩
  · have hq : Utf.isPt q = false := by
      rcases h with h | h
      · rw [hp] at h; cases h
      · exact h
    have HP := hid hp
    have HQ := hid hq
    have e : p ≠ q := fun e => by rw [e, hq] at hp; cases hp
    have hne : (p == q) = false := by simpa using e
    have hne' : (p != q) = true := by simpa using e
    clear hp hq e h
    go_enter Try.func7, Try.ntmps7
    go_wp2_with fail
    refine (encode_yes p _ HP.out).mono ?_
    rintro e w1 ⟨rfl, hw1⟩
    have bel1 : Below w.heap.size w w1 := by rw [hw1]; exact encW_below _ _ _
    clear hw1
    go_wp2_with fail
    refine (encode_no q _ HQ.out).mono ?_
    rintro e w1 ⟨rfl, rfl⟩
    go_wp2_with fail
    refine (fixed_calls _).mono ?_
    rintro e w3 ⟨rfl, hb⟩
    go_wp2_with fail
    go_ret
    exact ⟨rfl, bel1.trans (hb.mono bel1.size)⟩

theorem utfSame_calls (p q : Int) (w : World) :
    Calls Try.prog 7 #[.int .i64 p, .int .i64 q] w fun e w' => e = .returned (.bool true) ∧ Below w.heap.size w w' := by
  by_cases h : Utf.isPt p = false ∨ Utf.isPt q = false
  · exact utfSame_no p q w h
  have hp : Utf.isPt p = true := by cases e : Utf.isPt p <;> simp_all
  have hq : Utf.isPt q = true := by cases e : Utf.isPt q <;> simp_all
  by_cases e : p = q
  · subst e; exact utfSame_eq p w hp
  have hp0 := (Utf.isPt_iff p).1 hp
  have hq0 := (Utf.isPt_iff q).1 hq
  have s1 := St.of (Utf.encF_bd p hp0.1 hp0.2.1) (Utf.encN p)
  have s2 := St.of (Utf.encF_bd q hq0.1 hq0.2.1) (Utf.encN q)
  have hne : (p == q) = false := by simpa using e
  rcases Int.lt_or_lt_of_ne e with hlt | hlt
  · obtain ⟨i, hi1, hi2, hpart⟩ := Utf.enc_parts hp hq hlt
    exact utfSame_yes p q w hp hq _ _ _ _ true rfl rfl rfl rfl s1.size s2.size (Utf.enc_ok hp).2.1 (Utf.enc_ok hq).2.1 hne (by simpa using hlt) (s1.less s2 hi1 hi2 hpart).1 (s1.part_ne s2 (i := i) (by omega) (by omega) (by omega) (by have := hpart.2; omega))
  · obtain ⟨i, hi1, hi2, hpart⟩ := Utf.enc_parts hq hp hlt
    exact utfSame_yes p q w hp hq _ _ _ _ false rfl rfl rfl rfl s1.size s2.size (Utf.enc_ok hp).2.1 (Utf.enc_ok hq).2.1 hne (by simp; omega) (s2.less s1 hi1 hi2 hpart).2 (s1.part_ne s2 (i := i) (by omega) (by omega) (by omega) (by have := hpart.2; omega))
end Go.Proofs.Ytbobdpklhhkniaa
