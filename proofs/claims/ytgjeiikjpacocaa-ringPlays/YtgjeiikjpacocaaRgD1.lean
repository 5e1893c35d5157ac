/-
  The walk of 'does' where the last thing is taken.
-/
import Derived.Test.YtgjeiikjpacocaaRgD
namespace Go.Proofs.Ytgjeiikjpacocaa
open Go.RowKit RI
open Rr (row SkI cells_at kept_block alloc_block two_new)
set_option linter.unusedVariables false
section
variable {w : World} {X : Nat → Prop} {B : Nat} {o : Option Nat} {room fr cnt : Nat} {a : Option Addr} {cap : Nat} {f : Nat → Int}

set_option maxRecDepth 100000 in
set_option maxHeartbeats 3200000 in
theorem does1_gen (hO : ∀ k, own B o k → X k) (hX : ∀ k, X k → k < w.heap.size) (R : RnI w B o room fr cnt f) (S : SkI w X a cnt cap f) (hfr : fr ≤ 1099511627776) (x N : Int) (xv : Int) (b : Bool) (n' : Nat) (N1 N2 : Int) (hn : n' = cnt - 1) (hb : b = decide (0 < cnt)) (h1 : N1 = (fr : Int) + cnt - 1) (h2 : N2 = (fr : Int) + n')
    (CA : ∀ w1 X1, SkI w1 X1 a cnt cap f → Calls Try.prog 28 #[row a cnt cap fr room, .int .i64 N1] w1 fun e w' => e = .returned (.tuple #[.int .i32 xv, .bool b]) ∧ Below w1.heap.size w1 w')
    (CR : ∀ w1 X1, SkI w1 X1 a cnt cap f → (∀ k, X1 k → k < w1.heap.size) → Calls Try.prog 29 #[row a cnt cap fr room, .int .i64 N2] w1 fun e w' => ∃ a' cap', e = .returned (.tuple #[row a' n' cap' fr room, .bool true]) ∧ Rr.Out w1 X1 n' f a' cap' w')
    (CP : ∀ w1, RnI w1 B o room fr cnt f → Calls Try.prog 22 #[ptr B] w1 fun e w' => e = .returned (.tuple #[.int .i32 xv, .bool b]) ∧ RnI w' B o room fr n' f ∧ Mut (own B o) w1 w') :
    Calls Try.prog 11 #[ptr B, row a cnt cap fr room, opv 1 x N] w fun e w' => ∃ v, e = .returned (.tuple #[v, .bool true]) ∧ DoesOut w X B o room fr v w' := by
  obtain ⟨hA, hP, hR, hS, hL⟩ := three_new w (.cells #[.slice a cnt cap, .int .i64 fr, .int .i64 room] 29) (.cells #[.int .u8 1, .int .i32 x, .int .i64 N] 31) (.cells #[.slice none 0 0, .int .i64 0, .int .i64 0] 29)
  have HCA := hid CA
  have HCR := hid CR
  have HCP := hid CP
  clear CR CP CA
  have hle := R.cle
  have hmx := R.mx
  have R0 := hid (R.below hL)
  have S0 := hid (S.xo hL)
  have HO := hid hO
  have HX := hid hX
  have HA := hid hA
  have HP := hid hP
  have HR := hid hR
  have HS := hid hS
  have HL := hid hL
  have hOl : ∀ k, own B o k → k < w.heap.size := fun k hk => hX k (hO k hk)
  have HOL := hid hOl
  clear hA hP hR hS hL R S hO hX hOl
  go_enter Try.func11, Try.ntmps11
  go_wp2_with fail
  generalize ((w.alloc (.cells #[.slice a cnt cap, .int .i64 fr, .int .i64 room] 29)).alloc (.cells #[.int .u8 1, .int .i32 x, .int .i64 N] 31)).alloc (.cells #[.slice none 0 0, .int .i64 0, .int .i64 0] 29) = w0 at *
  refine (HCP.out w0 R0.out).mono ?_
  rintro e w1 ⟨rfl, r1, m1⟩
  have R1 := hid r1
  have M1 := hid ((Mut.ofBelow HL.out (own B o)).trans m1 (fun _ _ e => e))
  have S1 := hid (S0.out.kept m1 (fun k e => .inl (HO.out k e)))
  have A1 := hid (m1.keeps HA.out (fun e => by have := HOL.out _ e; omega))
  have P1 := hid (m1.keeps HP.out (fun e => by have := HOL.out _ e; omega))
  have Q1 := hid (m1.keeps HR.out (fun e => by have := HOL.out _ e; omega))
  have hs : w.heap.size + 3 ≤ w1.heap.size := by have := m1.size; have := HS.out; omega
  clear r1 m1 R0 S0 HA HP HR HL HS HCP
  obtain ⟨a0, a1, a2, _, _, _⟩ := cells_at A1.out
  obtain ⟨p0, p1, p2, _, _, _⟩ := cells_at P1.out
  have e1 : IntKind.i64.wrap ((fr : Int) + cnt) = fr + cnt := i64_in (by omega) (by omega)
  have e2 : IntKind.i64.wrap ((fr : Int) + cnt - 1) = N1 := by rw [i64_in (by omega) (by omega)]; omega
  obtain ⟨d, hd⟩ : ∃ d : Int, d = cnt - 1 := ⟨_, rfl⟩
  have e3 : IntKind.i64.wrap ((cnt : Int) - 1) = d := by rw [i64_in (by omega) (by omega), hd]
  have e4 : (if (0 : Int) < d then d else 0) = n' := by split <;> omega
  have e5 : IntKind.i64.wrap ((fr : Int) + n') = N2 := by rw [i64_in (by omega) (by omega)]; omega
  have HN := hid hn
  have HBB := hid hb
  have H1 := hid h1
  have H2 := hid h2
  have HD := hid hd
  clear hn hb h1 h2 hd
  go_wp2_with fail
  refine (HCA.out w1 _ S1.out).mono ?_
  rintro e w2 ⟨rfl, b2⟩
  have R2 := hid (R1.out.below b2)
  have S2 := hid (S1.out.below b2)
  have M2 := hid (M1.out.trans (Mut.ofBelow b2 (own B o)) (fun _ _ e => e))
  have A2 := hid (below_keeps b2 A1.out)
  have Q2 := hid (below_keeps b2 Q1.out)
  have hs2 : w.heap.size + 3 ≤ w2.heap.size := Nat.le_trans hs b2.size
  clear b2 R1 S1 M1 A1 P1 Q1 a0 a1 a2 p0 p1 p2 hs HCA
  obtain ⟨a0, a1, a2, _, _, _⟩ := cells_at A2.out
  go_wp2_with fail
  refine (HCR.out w2 _ S2.out (fun k hk => by rcases hk with hk | hk; have := HX.out k hk; omega; omega)).mono ?_
  rintro e w3 ⟨a', cap', rfl, out⟩
  have b3 := out.below
  have b4 := b3.alloc b3.size (.cells #[.slice a' n' cap', .int .i64 fr, .int .i64 room] 29)
  have DE := hid (does_end (fr := fr) HO.out HX.out (out.sk.below ((Below.refl _ w3).alloc (Nat.le_refl _) (.cells #[.slice a' n' cap', .int .i64 fr, .int .i64 room] 29))) (R2.out.below b4.drew) (M2.out.trans (Mut.ofBelow b4 (own B o)) (fun _ _ e => e)) (Nat.le_trans hs2 b4.size) (Mut.ofBelow (Below.refl _ _).drew _) (.inl rfl) (by omega) (.slice a' n' cap') (.int .i64 fr) (.int .i64 room))
  have A3 := hid (alloc_block (o' := .cells #[.slice a' n' cap', .int .i64 fr, .int .i64 room] 29) (below_keeps b3 A2.out))
  have Q3 := hid (alloc_block (o' := .cells #[.slice a' n' cap', .int .i64 fr, .int .i64 room] 29) (below_keeps b3 Q2.out))
  have N3 := hid (heap_alloc_new w3 (.cells #[.slice a' n' cap', .int .i64 fr, .int .i64 room] 29))
  have hs3 : w.heap.size + 3 ≤ w3.heap.size := Nat.le_trans hs2 b3.size
  clear b3 b4 out R2 S2 M2 A2 Q2 HCR HO HX HOL a0 a1 a2 hs2
  go_wp2_with fail
  generalize w3.alloc (.cells #[.slice a' n' cap', .int .i64 fr, .int .i64 room] 29) = w4 at *
  generalize w3.heap.size = nb at *
  obtain ⟨n0, n1, n2, _, _, _⟩ := cells_at N3.out
  obtain ⟨a0, _, _, _, _, _⟩ := cells_at A3.out
  obtain ⟨q0, q1, q2, f0, f1, f2⟩ := cells_at Q3.out
  have t1 : (b == decide ((0 : Int) < cnt)) = true := by rw [HBB.out]; simp
  have hne : nb ≠ w.heap.size + 1 + 1 := by omega
  have hne1 : w.heap.size ≠ w.heap.size + 1 + 1 := by omega
  go_region_held3 (fun w' => w'.cell? ⟨nb, 0, none⟩ = some (.slice a' n' cap') ∧ w'.cell? ⟨nb, 1, none⟩ = some (.int .i64 fr) ∧ w'.cell? ⟨nb, 2, none⟩ = some (.int .i64 room) ∧ w'.cell? ⟨w.heap.size, 0, none⟩ = some (.slice a cnt cap))
    (first | exact ⟨(three_keep _ hne).trans n0, (three_keep _ hne).trans n1, (three_keep _ hne).trans n2, (three_keep _ hne1).trans a0⟩ | go_keep)
    (fail)
  go_wp2_with fail

  exact bodyPost_ret (v := .tuple #[row a' n' cap' fr room, .bool true]) (by simp [results, Try.results11, go_sem, q0, q1, q2]; exact HBB.out) rfl ⟨_, rfl, DE.out⟩
end
end Go.Proofs.Ytgjeiikjpacocaa
