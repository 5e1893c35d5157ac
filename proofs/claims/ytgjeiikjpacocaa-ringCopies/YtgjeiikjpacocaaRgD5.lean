/-
  The walk of 'does' where all things are asked for.
-/
import Derived.Test.YtgjeiikjpacocaaRgD
namespace Go.Proofs.Ytgjeiikjpacocaa
open Go.RowKit RI
open Rr (row SkI cells_at kept_block alloc_block two_new)
set_option linter.unusedVariables false
section
variable {w : World} {X : Nat → Prop} {B : Nat} {o : Option Nat} {room fr cnt : Nat} {a : Option Addr} {cap : Nat} {f : Nat → Int}

set_option maxRecDepth 100000 in
set_option maxHeartbeats 3200000 in
theorem does5_gen (hO : ∀ k, own B o k → X k) (hX : ∀ k, X k → k < w.heap.size) (R : RnI w B o room fr cnt f) (S : SkI w X a cnt cap f) (kind x N : Int) (h0 : ¬ kind = 0) (h1 : ¬ kind = 1) (h2 : ¬ kind = 2) (h3 : ¬ kind = 3) (h4 : ¬ kind = 4) :
    Calls Try.prog 11 #[ptr B, row a cnt cap fr room, opv kind x N] w fun e w' => ∃ v, e = .returned (.tuple #[v, .bool true]) ∧ DoesOut w X B o room fr v w' := by
  obtain ⟨hA, hP, hR, hS, hL⟩ := three_new w (.cells #[.slice a cnt cap, .int .i64 fr, .int .i64 room] 29) (.cells #[.int .u8 kind, .int .i32 x, .int .i64 N] 31) (.cells #[.slice none 0 0, .int .i64 0, .int .i64 0] 29)
  have hle := R.cle
  have hmx := R.mx
  have R0 := hid (R.below hL)
  have S0 := hid (S.xo hL)
  have HO := hid hO
  have HX := hid hX
  have HA := hid hA
  have HP := hid hP
  have HR := hid hR
  have HS := hid hS
  have HL := hid hL
  have hOl : ∀ k, own B o k → k < w.heap.size := fun k hk => hX k (hO k hk)
  have HOL := hid hOl
  clear hA hP hR hS hL R S hO hX hOl
  go_enter Try.func11, Try.ntmps11
  go_wp2_with fail
  generalize ((w.alloc (.cells #[.slice a cnt cap, .int .i64 fr, .int .i64 room] 29)).alloc (.cells #[.int .u8 kind, .int .i32 x, .int .i64 N] 31)).alloc (.cells #[.slice none 0 0, .int .i64 0, .int .i64 0] 29) = w0 at *
  obtain ⟨a0, a1, a2, _, _, _⟩ := cells_at HA.out
  have P := hid (all_n (R0.out.below (Below.refl _ _).drew))
  have PS := hid (show ∀ w1 a1, AllRow w0.drew cnt f a1 w1 → Calls Try.prog 14 #[.slice a1 cnt cnt, .slice a cnt cap] w1 fun e w' => e = .returned (.bool true) ∧ ∃ d, w' = w1.drewN d from fun w1 a1 h => by
    have s1 : Sk w1 .i32 (fun _ => False) a1 cnt cnt f := by
      by_cases h0 : 0 < cnt
      · obtain ⟨rfl, hb⟩ := h.at' h0
        exact Sk.ofBlock hb (by unfold maxLen; omega) (fun e => e)
      · obtain rfl : cnt = 0 := by omega
        obtain rfl := h.nil rfl
        exact Sk.nilS w1 .i32 _ f
    exact same_yes s1 ((S0.out.below (Below.refl _ _).drew).below h.below) (by omega) (fun _ _ => rfl))
  have KS := hid (show ∀ w1, Below w0.drew.heap.size w0.drew w1 → w1.cell? ⟨w.heap.size, 0, none⟩ = some (.slice a cnt cap) ∧ w1.cell? ⟨w.heap.size, 1, none⟩ = some (.int .i64 fr) ∧ w1.cell? ⟨w.heap.size, 2, none⟩ = some (.int .i64 room) from fun w1 b => by
    obtain ⟨h1, h2, h3, _⟩ := cells_at (below_keeps (w := w0.drew) b HA.out)
    exact ⟨h1, h2, h3⟩)
  have KQ := hid (show ∀ w1, Below w0.drew.heap.size w0.drew w1 → w1.heap[w.heap.size + 1 + 1]? = some (.cells #[.slice none 0 0, .int .i64 0, .int .i64 0] 29) from fun w1 b => below_keeps (w := w0.drew) b HR.out)
  have DE := hid (show ∀ w1, Below w0.drew.heap.size w0.drew w1 → DoesOut w X B o room fr (row a cnt cap fr room) (((w1.setCell ⟨w.heap.size + 1 + 1, 0, none⟩ (.slice a cnt cap)).setCell ⟨w.heap.size + 1 + 1, 1, none⟩ (.int .i64 fr)).setCell ⟨w.heap.size + 1 + 1, 2, none⟩ (.int .i64 room)) from fun w1 b =>
    does_end (w2 := w1) HO.out HX.out ((S0.out.below (Below.refl _ _).drew).below b) ((R0.out.below (Below.refl _ _).drew).below b) (Mut.ofBelow (HL.out.drew.trans (b.mono HL.out.size)) _) (by have := b.size; have := HS.out; have : w0.drew.heap.size = w0.heap.size := rfl; omega) (Mut.refl _ _) (.inl rfl) (by omega) _ _ _)
  have hne1 : w.heap.size ≠ w.heap.size + 1 + 1 := by omega
  clear R0 S0 HO HX HA HP HR HS HL HOL
  go_region_held3 (fun w' => w'.cell? ⟨w.heap.size, 0, none⟩ = some (.slice a cnt cap) ∧ w'.cell? ⟨w.heap.size, 1, none⟩ = some (.int .i64 fr) ∧ w'.cell? ⟨w.heap.size, 2, none⟩ = some (.int .i64 room))
    (first | exact NK.out | exact NL.out | exact ⟨(three_keep _ hne1).trans NL.out.1, (three_keep _ hne1).trans NL.out.2.1, (three_keep _ hne1).trans NL.out.2.2⟩ | go_keep)
    (first | (go_at_call 15; refine P.out.mono ?_; rintro e w1 ⟨a1, rfl, h1⟩; have NK := hid (KS.out w1 h1.below); have H1 := hid h1; clear h1) | (go_at_call 14; refine (PS.out w1 a1 H1.out).mono ?_; rintro e w2 ⟨rfl, d2, rfl⟩; have b2 := below_drewN H1.out.below d2; have NL := hid (KS.out _ b2); obtain ⟨q0, q1, q2, f0, f1, f2⟩ := cells_at (KQ.out _ b2); have DO := hid (DE.out _ b2); clear b2))
  go_wp2_with fail
  exact bodyPost_ret (v := .tuple #[row a cnt cap fr room, .bool true]) (by simp [results, Try.results11, go_sem, q0, q1, q2]) rfl ⟨_, rfl, DO.out⟩
end
end Go.Proofs.Ytgjeiikjpacocaa
