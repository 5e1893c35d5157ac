/-
  The walk of fixed: the chapter's examples.
-/
import Derived.Test.YtanccppmfgghgaaB6D
import Derived.Test.YtanccppmfgghgaaSb
namespace Go.Proofs.Ytanccppmfgghgaa
open Go.RowKit
set_option linter.unusedVariables false

theorem B6.bad_one {f : Nat → Int} {n p q : Nat} (hp : B6.Bad f n p) (hq : B6.Bad f n q) : p = q := by
  obtain ⟨p1, p2, p3⟩ := B6.bad_beg hp
  obtain ⟨q1, q2, q3⟩ := B6.bad_beg hq
  have lp := B6.bad_le hp
  have lq := B6.bad_le hq
  by_cases h : p = q
  · exact h
  · exfalso
    by_cases h1 : p < q
    · exact p2 (by omega) (q1 p h1)
    · exact q2 (by omega) (p1 q (by omega))
def sAB : ByteArray := ⟨#[65, 66, 61, 61]⟩
theorem bad_AB : B6.Bad (bytesF sAB) 4 2 := ⟨0, by omega, B6.full_zero _ _, Or.inl ⟨by decide +kernel, by decide +kernel⟩⟩
theorem enc_zero : str (B6.encF (fun _ => 0) 1) (B6.encN 1) = ⟨#[65, 65, 61, 61]⟩ := by decide +kernel
theorem Sl.one {w : World} {x0 : Int} (t : TypeId) (g : Nat → Int) (hg : ∀ i, 0 ≤ g i ∧ g i ≤ 255) (h0 : x0 = g 0) : Sl (w.alloc (.cells #[.int .u8 x0] t)) (some ⟨w.heap.size, 0, none⟩) 1 1 g := by
  refine ⟨Nat.le_refl _, by decide, hg, fun e => absurd e (by simp), fun _ => ⟨w.heap.size, 0, rfl, by simp, fun i hi => ?_⟩⟩
  subst h0
  obtain rfl : i = 0 := by omega
  simp

set_option maxRecDepth 100000 in
set_option maxHeartbeats 1600000 in
theorem fixed03_calls (w : World) : Calls Try.prog 8 #[] w fun e w' => e = .returned (.bool true) ∧ Below w.heap.size w w' := by
  have hd := fun w => b6decode_calls sAB 4 (bytesF sAB) w (by omega) (St.any sAB)
  have HD := hid hd
  clear hd
  unfold sAB at HD
  go_enter Try.func8, Try.ntmps8
  go_wp2_with fail
  refine (HD.out _).mono ?_
  rintro e w1 ⟨ho, hb1⟩
  obtain rfl : e = .returned (.tuple #[.slice none 0 0, .int .i64 2, .bool false]) := by
    rcases ho with ⟨hg, _⟩ | ⟨p, hp, rfl⟩
    · exact absurd hg (B6.bad_not_good bad_AB)
    · rw [B6.bad_one hp bad_AB]; rfl
  have B1 := hid hb1
  clear ho hb1 HD
  go_wp2_with fail
  refine (b6encode_calls _ 1 1 (fun _ => 0) _ (by omega) (Sl.one _ _ (fun i => by omega) rfl)).mono ?_
  rintro e w2 ⟨rfl, hb2⟩
  rw [enc_zero]
  have hs := B1.out.size
  have B2 := hid ((B1.out.alloc hs _).trans (hb2.mono (by simp; omega)))
  clear hb2
  go_wp2_with fail
  go_ret
  exact ⟨rfl, B2.out⟩
end Go.Proofs.Ytanccppmfgghgaa
