/-
  'does', whatever is done.
-/
import Derived.Test.YtgjeiikjpacocaaRgD0
import Derived.Test.YtgjeiikjpacocaaRgD1
import Derived.Test.YtgjeiikjpacocaaRgD2
import Derived.Test.YtgjeiikjpacocaaRgD3
import Derived.Test.YtgjeiikjpacocaaRgD4
import Derived.Test.YtgjeiikjpacocaaRgD5
namespace Go.Proofs.Ytgjeiikjpacocaa
open Go.RowKit RI
open Rr (row SkI)
set_option linter.unusedVariables false

theorem does_calls {w : World} {X : Nat → Prop} {B : Nat} {o : Option Nat} {room fr cnt : Nat} {a : Option Addr} {cap : Nat} {f : Nat → Int} (hO : ∀ k, own B o k → X k) (hX : ∀ k, X k → k < w.heap.size) (R : RnI w B o room fr cnt f) (S : SkI w X a cnt cap f) (hfr : fr + 1 ≤ 1099511627776) (kind x N : Int) :
    Calls Try.prog 11 #[ptr B, row a cnt cap fr room, opv kind x N] w fun e w' => ∃ v, e = .returned (.tuple #[v, .bool true]) ∧ DoesOut w X B o room fr v w' := by
  have hle := R.cle
  have hmx := R.mx
  by_cases h0 : kind = 0
  · subst h0
    by_cases hr : cnt < room
    · refine does0_gen hO hX R S hfr x N (cnt + 1) (sn f cnt x) true (fun w1 X1 s1 x1 => ?_) (fun w1 r1 => ?_)
      · exact Rr.push_yes s1 x1 (by omega) fr room x (by omega)
      · exact push_n r1 hr (by omega) x
    · obtain rfl : cnt = room := by omega
      refine does0_gen hO hX R S hfr x N cnt f false (fun w1 X1 s1 x1 => ?_) (fun w1 r1 => ?_)
      · refine (Rr.push_no fr cnt x (by omega)).mono ?_
        rintro e w2 ⟨rfl, b⟩
        exact ⟨a, cap, rfl, s1.below b, b⟩
      · refine (push_full r1 x).mono ?_
        rintro e w2 ⟨rfl, rfl⟩
        exact ⟨rfl, o, r1, Mut.refl _ _, .inl rfl⟩
  by_cases h1 : kind = 1
  · subst h1
    rcases Nat.eq_zero_or_pos cnt with hc | hc
    · subst hc
      refine does1_gen hO hX R S (by omega) x N 0 false 0 ((fr : Int) + (0 : Nat) - 1) ((fr : Int) + (0 : Nat)) rfl (by simp) rfl rfl (fun w1 X1 s1 => ?_) (fun w1 X1 s1 x1 => ?_) (fun w1 r1 => ?_)
      · exact Rr.at_out (by omega) fr (by omega) room _ (.inl (by omega))
      · exact Rr.cut_in s1 x1 (by omega) fr (by omega) room 0 (Nat.le_refl _) _ rfl
      · refine (pop_none r1).mono ?_
        rintro e w2 ⟨rfl, rfl⟩
        exact ⟨rfl, r1, Mut.refl _ _⟩
    · obtain ⟨c, rfl⟩ : ∃ c, cnt = c + 1 := ⟨cnt - 1, by omega⟩
      refine does1_gen hO hX R S (by omega) x N (f c) true c ((fr : Int) + (c + 1 : Nat) - 1) ((fr : Int) + c) rfl (by simp) rfl rfl (fun w1 X1 s1 => ?_) (fun w1 X1 s1 x1 => ?_) (fun w1 r1 => ?_)
      · exact Rr.at_in s1 (by omega) fr (by omega) room c (by omega) _ (by omega)
      · exact Rr.cut_in s1 x1 (by omega) fr (by omega) room c (by omega) _ rfl
      · exact pop_n r1 c rfl (by omega)
  by_cases h2 : kind = 2
  · subst h2
    rcases Nat.eq_zero_or_pos cnt with hc | hc
    · subst hc
      refine does2_gen hO hX R S x N 0 false 0 fr f (by omega) (fun w1 X1 s1 x1 => ?_) (fun w1 r1 => ?_)
      · refine (Rr.shift_no fr room).mono ?_
        rintro e w2 ⟨rfl, b⟩
        exact ⟨a, cap, rfl, s1.below b, b⟩
      · refine (shift_none r1).mono ?_
        rintro e w2 ⟨rfl, rfl⟩
        exact ⟨rfl, r1, Mut.refl _ _⟩
    · obtain ⟨c, rfl⟩ : ∃ c, cnt = c + 1 := ⟨cnt - 1, by omega⟩
      refine does2_gen hO hX R S x N (f 0) true c (fr + 1) (fun i => f (i + 1)) (Nat.le_refl _) (fun w1 X1 s1 x1 => ?_) (fun w1 r1 => ?_)
      · exact Rr.shift_yes s1 x1 (by omega) c rfl fr (by omega) room
      · exact shift_n r1 c rfl hfr
  by_cases h3 : kind = 3
  · subst h3
    have key : ∀ (xv : Int) (b : Bool) (w1 : World), RnI w1 B o room fr cnt f → Calls Try.prog 24 #[ptr B, .int .i64 N] w1 (fun e w' => e = .returned (.tuple #[.int .i32 xv, .bool b]) ∧ ∃ m, w' = w1.drewN m) → Calls Try.prog 24 #[ptr B, .int .i64 N] w1 (fun e w' => e = .returned (.tuple #[.int .i32 xv, .bool b]) ∧ RnI w' B o room fr cnt f ∧ Mut (own B o) w1 w') := fun xv b w1 r1 h => by
      refine h.mono ?_
      rintro e w2 ⟨rfl, m, rfl⟩
      exact ⟨rfl, r1.below (below_drewN (Below.refl _ _) m), Mut.drewN _ _ m⟩
    by_cases hin : (fr : Int) ≤ N ∧ N < fr + cnt
    · obtain ⟨i, hi⟩ : ∃ i : Nat, N = fr + i := ⟨(N - fr).toNat, by omega⟩
      refine does3_gen hO hX R S x N (f i) true (fun w1 X1 s1 => ?_) (fun w1 r1 => ?_)
      · exact Rr.at_in s1 (by omega) fr (by omega) room i (by omega) _ hi
      · exact key _ _ _ r1 (at_in r1 i (by omega) (by omega) N hi)
    · refine does3_gen hO hX R S x N 0 false (fun w1 X1 s1 => ?_) (fun w1 r1 => ?_)
      · exact Rr.at_out (by omega) fr (by omega) room _ (by omega)
      · exact key _ _ _ r1 (at_out r1 (by omega) N (by omega))
  by_cases h4 : kind = 4
  · subst h4
    by_cases hin : (fr : Int) ≤ N ∧ N ≤ fr + cnt
    · obtain ⟨k, hk⟩ : ∃ k : Nat, N = fr + k := ⟨(N - fr).toNat, by omega⟩
      refine does4_gen hO hX R S hfr x N k f true (fun w1 X1 s1 x1 => ?_) (fun w1 r1 => ?_)
      · exact Rr.cut_in s1 x1 (by omega) fr (by omega) room k (by omega) _ hk
      · refine (cut_in r1 (by omega) k (by omega) N hk).mono ?_
        rintro e w2 ⟨rfl, r2, m2⟩
        exact ⟨rfl, o, r2, m2, .inl rfl⟩
    · refine does4_gen hO hX R S hfr x N cnt f false (fun w1 X1 s1 x1 => ?_) (fun w1 r1 => ?_)
      · refine (Rr.cut_out (by omega) fr (by omega) room N (by omega)).mono ?_
        rintro e w2 ⟨rfl, b⟩
        exact ⟨a, cap, rfl, s1.below b, b⟩
      · refine (cut_out r1 (by omega) N (by omega)).mono ?_
        rintro e w2 ⟨rfl, m, rfl⟩
        exact ⟨rfl, o, r1.below (below_drewN (Below.refl _ _) m), Mut.drewN _ _ m, .inl rfl⟩
  exact does5_gen hO hX R S kind x N h0 h1 h2 h3 h4
end Go.Proofs.Ytgjeiikjpacocaa
