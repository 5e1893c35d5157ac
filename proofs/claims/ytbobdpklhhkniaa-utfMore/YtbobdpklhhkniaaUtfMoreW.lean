/-
  The walk of the law UtfMore.
-/
import Derived.Test.YtbobdpklhhkniaaUtfW6
namespace Go.Proofs.Ytbobdpklhhkniaa
open Go.RowKit
set_option linter.unusedVariables false

set_option maxHeartbeats 1000000 in
theorem utfMore_calls (a0 : Option Addr) (n0 c0 : Nat) (f0 : Nat → Int) (a1 : Option Addr) (n1 c1 : Nat) (f1 : Nat → Int) (w : World) (h0 : Sl w a0 n0 c0 f0) (h1 : Sl w a1 n1 c1 f1) :
    Calls Try.prog 6 #[.slice a0 n0 c0, .slice a1 n1 c1] w fun e w' => e = .returned (.bool true) ∧ Below w.heap.size w w' := by
  have H0 := hid h0
  have H1 := hid h1
  clear h0 h1
  obtain ⟨i, hi, hz0, hz1, hz2⟩ := info_parts Try.info8
  by_cases hb0 : 500 < n0
  · have hb0' : (500 : Int) < n0 := by omega
    go_enter Try.func6, Try.ntmps6
    go_wp2_with fail
    refine (fixed_calls _).mono ?_
    rintro e w' ⟨rfl, hb⟩
    go_wp2_with fail
    go_ret
    exact ⟨rfl, hb⟩
  have hb0' : ¬ (500 : Int) < n0 := by omega
  by_cases hb1 : 500 < n1
  · have hb1' : (500 : Int) < n1 := by omega
    go_enter Try.func6, Try.ntmps6
    go_wp2_with fail
    refine (fixed_calls _).mono ?_
    rintro e w' ⟨rfl, hb⟩
    go_wp2_with fail
    go_ret
    exact ⟨rfl, hb⟩
  have hb1' : ¬ (500 : Int) < n1 := by omega
  obtain ⟨⟨p, m, mo⟩, hd⟩ : ∃ d, Utf.dec f0 n0 false = d := ⟨_, rfl⟩
  obtain ⟨⟨q, k, late⟩, hd2⟩ : ∃ d, Utf.dec (cat f0 n0 f1) (n0 + n1) false = d := ⟨_, rfl⟩
  have hst : mo = false → (q, k, late) = (p, m, false) := fun e => by
    subst e
    rw [← hd, ← hd2]
    exact Utf.dec_stays (by omega) (fun i hi => (cat_lt hi).symm) (by rw [hd])
  have HD := hid hd
  have HD2 := hid hd2
  clear hd hd2
  cases mo
  · have e := hst rfl
    simp only [Prod.mk.injEq] at e
    obtain ⟨rfl, rfl, rfl⟩ := e
    clear hst
    go_enter Try.func6, Try.ntmps6
    go_wp2_with fail
    refine (decode_calls a0 n0 c0 f0 false _ H0.out).mono ?_
    rintro e w ⟨rfl, rfl⟩
    rw [HD.out]
    unfold D3
    go_wp2_with (first
      | (at_builtin; refine wpList_append_sl (f := f0) rfl _ _ 22 rfl w.heap.size 5 i Try.underlying22 hi hz0 hz1 hz2 (.slice (some ⟨w.heap.size, 0, none⟩) 0 0) 0 rfl (World.ownsRow_lit w #[] 0 (Nat.le_refl _) (by decide) rfl) a0 n0 c0 f0 rfl (H0.out.below ((Below.refl _ _).alloc (Nat.le_refl _) _)) (by omega) (by simp) ?_; intro v1 w1 ho1 hg1; rw [cat_zero] at ho1; have bel1 : Below w.heap.size w w1 := ((Below.refl _ _).alloc (Nat.le_refl _) _).grown hg1 (by simp) (fun k hk => by simp [Value.ownBlock] at hk; omega))
      | (at_builtin; refine wpList_append_sl rfl _ _ 22 rfl w.heap.size 5 i Try.underlying22 hi hz0 hz1 hz2 v1 _ _ rfl ho1 a1 n1 c1 f1 rfl (H1.out.below bel1) (by omega) bel1.size ?_))
    intro v2 w2 ho2 hg2
    have bel2 : Below w.heap.size w w2 := bel1.grown hg2 bel1.size (fun k hk => (ho1.lt k hk).1)
    obtain ⟨a2, c2, hv, hsl2⟩ := Sl.own ho2 (cat_bd H0.out.bd H1.out.bd)
    subst hv
    go_wp2_with fail
    refine (decode_calls a2 _ c2 _ false _ hsl2).mono ?_
    rintro e w2 ⟨rfl, rfl⟩
    rw [HD2.out]
    unfold D3
    go_wp2_with fail
    refine (fixed_calls _).mono ?_
    rintro e w3 ⟨rfl, hb⟩
    go_wp2_with fail
    go_ret
    exact ⟨rfl, bel2.trans (hb.mono bel2.size)⟩
  · clear hst
    go_enter Try.func6, Try.ntmps6
    go_wp2_with fail
    refine (decode_calls a0 n0 c0 f0 false _ H0.out).mono ?_
    rintro e w ⟨rfl, rfl⟩
    rw [HD.out]
    unfold D3
    go_wp2_with (first
      | (at_builtin; refine wpList_append_sl (f := f0) rfl _ _ 22 rfl w.heap.size 5 i Try.underlying22 hi hz0 hz1 hz2 (.slice (some ⟨w.heap.size, 0, none⟩) 0 0) 0 rfl (World.ownsRow_lit w #[] 0 (Nat.le_refl _) (by decide) rfl) a0 n0 c0 f0 rfl (H0.out.below ((Below.refl _ _).alloc (Nat.le_refl _) _)) (by omega) (by simp) ?_; intro v1 w1 ho1 hg1; rw [cat_zero] at ho1; have bel1 : Below w.heap.size w w1 := ((Below.refl _ _).alloc (Nat.le_refl _) _).grown hg1 (by simp) (fun k hk => by simp [Value.ownBlock] at hk; omega))
      | (at_builtin; refine wpList_append_sl rfl _ _ 22 rfl w.heap.size 5 i Try.underlying22 hi hz0 hz1 hz2 v1 _ _ rfl ho1 a1 n1 c1 f1 rfl (H1.out.below bel1) (by omega) bel1.size ?_))
    intro v2 w2 ho2 hg2
    have bel2 : Below w.heap.size w w2 := bel1.grown hg2 bel1.size (fun k hk => (ho1.lt k hk).1)
    obtain ⟨a2, c2, hv, hsl2⟩ := Sl.own ho2 (cat_bd H0.out.bd H1.out.bd)
    subst hv
    go_wp2_with fail
    refine (decode_calls a2 _ c2 _ false _ hsl2).mono ?_
    rintro e w2 ⟨rfl, rfl⟩
    rw [HD2.out]
    unfold D3
    go_wp2_with fail
    refine (fixed_calls _).mono ?_
    rintro e w3 ⟨rfl, hb⟩
    go_wp2_with fail
    go_ret
    exact ⟨rfl, bel2.trans (hb.mono bel2.size)⟩
end Go.Proofs.Ytbobdpklhhkniaa
