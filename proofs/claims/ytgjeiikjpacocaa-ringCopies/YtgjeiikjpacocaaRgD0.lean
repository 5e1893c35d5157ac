/-
  The walk of 'does' where a thing is put.
-/
import Derived.Test.YtgjeiikjpacocaaRgD
namespace Go.Proofs.Ytgjeiikjpacocaa
open Go.RowKit RI
open Rr (row SkI cells_at kept_block alloc_block two_new)
set_option linter.unusedVariables false
section
variable {w : World} {X : Nat → Prop} {B : Nat} {o : Option Nat} {room fr cnt : Nat} {a : Option Addr} {cap : Nat} {f : Nat → Int}

set_option maxRecDepth 100000 in
set_option maxHeartbeats 3200000 in
theorem does0_gen (hO : ∀ k, own B o k → X k) (hX : ∀ k, X k → k < w.heap.size) (R : RnI w B o room fr cnt f) (S : SkI w X a cnt cap f) (hfr : fr + 1 ≤ 1099511627776) (x N : Int) (n' : Nat) (f' : Nat → Int) (b : Bool)
    (CR : ∀ w1 X1, SkI w1 X1 a cnt cap f → (∀ k, X1 k → k < w1.heap.size) → Calls Try.prog 27 #[row a cnt cap fr room, .int .i32 x] w1 fun e w' => ∃ a' cap', e = .returned (.tuple #[row a' n' cap' fr room, .bool b]) ∧ Rr.Out w1 X1 n' f' a' cap' w')
    (CP : ∀ w1, RnI w1 B o room fr cnt f → Calls Try.prog 25 #[ptr B, .int .i32 x] w1 fun e w' => e = .returned (.bool b) ∧ ∃ o', RnI w' B o' room fr n' f' ∧ Mut (own B o) w1 w' ∧ (o' = o ∨ ∃ D', o' = some D' ∧ w1.heap.size ≤ D')) :
    Calls Try.prog 11 #[ptr B, row a cnt cap fr room, opv 0 x N] w fun e w' => ∃ v, e = .returned (.tuple #[v, .bool true]) ∧ DoesOut w X B o room fr v w' := by
  obtain ⟨hA, hP, hR, hS, hL⟩ := three_new w (.cells #[.slice a cnt cap, .int .i64 fr, .int .i64 room] 29) (.cells #[.int .u8 0, .int .i32 x, .int .i64 N] 31) (.cells #[.slice none 0 0, .int .i64 0, .int .i64 0] 29)
  have HCR := hid CR
  have HCP := hid CP
  clear CR CP
  have hle := R.cle
  have hmx := R.mx
  have R0 := hid (R.below hL)
  have S0 := hid (S.xo hL)
  have HO := hid hO
  have HX := hid hX
  have HA := hid hA
  have HP := hid hP
  have HR := hid hR
  have HS := hid hS
  have HL := hid hL
  clear hA hP hR hS hL R S hO hX
  go_enter Try.func11, Try.ntmps11
  go_wp2_with fail
  generalize ((w.alloc (.cells #[.slice a cnt cap, .int .i64 fr, .int .i64 room] 29)).alloc (.cells #[.int .u8 0, .int .i32 x, .int .i64 N] 31)).alloc (.cells #[.slice none 0 0, .int .i64 0, .int .i64 0] 29) = w0 at *
  refine (HCR.out w0 _ S0.out (fun k hk => by have := HS.out; rcases hk with hk | hk; have := HX.out k hk; omega; omega)).mono ?_
  rintro e w1 ⟨a', cap', rfl, out⟩
  have S1 := hid out.sk
  have B1 := hid out.below
  have P1 := hid (below_keeps out.below HP.out)
  have Q1 := hid (below_keeps out.below HR.out)
  have R1 := hid (R0.out.below out.below)
  have hs : w.heap.size + 3 ≤ w1.heap.size := by have := out.below.size; have := HS.out; omega
  have HB1 := hid (HL.out.trans (out.below.mono HL.out.size))
  clear out R0 HA HP HR S0 HL B1
  go_wp2_with fail
  have N2 := hid (heap_alloc_new w1 (.cells #[.slice a' n' cap', .int .i64 fr, .int .i64 room] 29))
  have P2 := hid (alloc_block (o' := .cells #[.slice a' n' cap', .int .i64 fr, .int .i64 room] 29) P1.out)
  have Q2 := hid (alloc_block (o' := .cells #[.slice a' n' cap', .int .i64 fr, .int .i64 room] 29) Q1.out)
  have b2 := (Below.refl _ w1).alloc (Nat.le_refl _) (.cells #[.slice a' n' cap', .int .i64 fr, .int .i64 room] 29)
  have R2 := hid (R1.out.below b2)
  have S2 := hid (S1.out.below b2)
  have HB2 := hid (HB1.out.trans (b2.mono HB1.out.size))
  have HS2 := hid (show w.heap.size + 3 ≤ (w1.alloc (.cells #[.slice a' n' cap', .int .i64 fr, .int .i64 room] 29)).heap.size by simp; omega)
  clear b2 R1 S1 HB1 P1 Q1
  generalize w1.alloc (.cells #[.slice a' n' cap', .int .i64 fr, .int .i64 room] 29) = w2 at *
  generalize w1.heap.size = nb at *
  obtain ⟨n0, n1, n2, _, _, _⟩ := cells_at N2.out
  obtain ⟨_, p1, _, _, _, _⟩ := cells_at P2.out
  have hO : ∀ k, own B o k → k < w.heap.size := fun k hk => HX.out k (HO.out k hk)
  have KS := hid (show ∀ w3, Mut (own B o) w2.drew w3 → w3.cell? ⟨nb, 0, none⟩ = some (.slice a' n' cap') ∧ w3.cell? ⟨nb, 1, none⟩ = some (.int .i64 fr) ∧ w3.cell? ⟨nb, 2, none⟩ = some (.int .i64 room) ∧ w3.cell? ⟨w.heap.size + 1, 1, none⟩ = some (.int .i32 x) from fun w3 m => by
    have h1 := cells_at (m.keeps (b := nb) N2.out (fun e => by have := hO _ e; omega))
    have h2 := cells_at (m.keeps (b := w.heap.size + 1) P2.out (fun e => by have := hO _ e; omega))
    exact ⟨h1.1, h1.2.1, h1.2.2.1, h2.2.1⟩)
  have KQ := hid (show ∀ w3, Mut (own B o) w2.drew w3 → w3.heap[w.heap.size + 1 + 1]? = some (.cells #[.slice none 0 0, .int .i64 0, .int .i64 0] 29) from fun w3 m => m.keeps (b := w.heap.size + 1 + 1) Q2.out (fun e => by have := hO _ e; omega))
  have P := hid (HCP.out w2.drew (R2.out.below (Below.refl _ _).drew))
  have hne : nb ≠ w.heap.size + 1 + 1 := by omega
  have hne1 : w.heap.size + 1 ≠ w.heap.size + 1 + 1 := by omega
  have DE := hid (show ∀ w3 o3, RnI w3 B o3 room fr n' f' → Mut (own B o) w2.drew w3 → (o3 = o ∨ ∃ D', o3 = some D' ∧ w2.drew.heap.size ≤ D') → DoesOut w X B o room fr (row a' n' cap' fr room) (((w3.setCell ⟨w.heap.size + 1 + 1, 0, none⟩ (.slice a' n' cap')).setCell ⟨w.heap.size + 1 + 1, 1, none⟩ (.int .i64 fr)).setCell ⟨w.heap.size + 1 + 1, 2, none⟩ (.int .i64 room)) from fun w3 o3 r m h =>
    does_end (w2 := w2.drew) HO.out HX.out (S2.out.below (Below.refl _ _).drew) r (Mut.ofBelow HB2.out.drew _) HS2.out m h (by omega) _ _ _)
  clear R2 S2 HB2 HS2 N2 P2 Q2 hO HX HO HCR HCP
  go_region_held3 (fun w' => w'.cell? ⟨nb, 0, none⟩ = some (.slice a' n' cap') ∧ w'.cell? ⟨nb, 1, none⟩ = some (.int .i64 fr) ∧ w'.cell? ⟨nb, 2, none⟩ = some (.int .i64 room) ∧ w'.cell? ⟨w.heap.size + 1, 1, none⟩ = some (.int .i32 x))
    (first | exact NK.out | exact ⟨(three_keep _ hne).trans NK.out.1, (three_keep _ hne).trans NK.out.2.1, (three_keep _ hne).trans NK.out.2.2.1, (three_keep _ hne1).trans NK.out.2.2.2⟩ | go_keep)
    (first | (go_at_call 25; refine P.out.mono ?_; rintro e w3 ⟨rfl, o3, r3, m3, h3⟩; have NK := hid (KS.out w3 m3); obtain ⟨q0, q1, q2, f0, f1, f2⟩ := cells_at (KQ.out w3 m3); have DO := hid (DE.out w3 o3 r3 m3 h3); clear r3 m3 h3))
  go_wp2_with fail
  exact bodyPost_ret (v := .tuple #[row a' n' cap' fr room, .bool true]) (by simp [results, Try.results11, go_sem, q0, q1, q2]) rfl ⟨_, rfl, DO.out⟩
end
end Go.Proofs.Ytgjeiikjpacocaa
