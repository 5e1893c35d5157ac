/-
  Walks of the reference's digits and Digits.
-/
import Derived.Test.YthemaacfjmcbnaaDoorLnN1
namespace Go.Proofs.YthemaacfjmcbnaaDoor
open Go.RowKit
open Go.Lib (decDigits itoa)
set_option linter.unusedVariables false

def rowB : ByteArray := ⟨#[48, 49, 50, 51, 52, 53, 54, 55, 56, 57]⟩
theorem row_fin : ∀ d : Fin 10, by_ (rowB.extract d.val (d.val + 1)) = [UInt8.ofNat (48 + d.val)] := by decide +kernel
theorem row_at {d : Nat} (h : d < 10) : rowB.extract d (d + 1) = mk [UInt8.ofNat (48 + d)] := by
  apply by_inj
  rw [by_mk]
  exact row_fin ⟨d, h⟩
theorem u64_in {n : Int} (h0 : 0 ≤ n) (h1 : n ≤ 18446744073709551615) : IntKind.u64.wrap n = n := by
  rw [IntKind.wrap_u64]; omega

set_option maxRecDepth 100000 in
set_option maxHeartbeats 3200000 in
theorem rdigits_calls (u : Nat) (hu : u < 18446744073709551616) (w : World) :
    Calls Tryd.prog 29 #[.int .u64 u] w fun e w' => e = .returned (.string (mk (decDigits u))) ∧ w' = w := by
  have hlen : (decDigits u).length ≤ 20 := by rw [Go.Lib.decDigits_length]; exact Go.Lib.nDigits_le20 u hu
  go_enter Tryd.func29, Tryd.ntmps29
  go_wp2_with fail
  go_loopg [0, 4] u (fun r nv sv wr => ∃ (m : Nat) (X : ByteArray), r = m ∧ m ≤ u ∧ nv = .int .u64 m ∧ sv = .string X ∧ X.size ≤ 20 ∧ Hid (∃ acc, X = mk acc ∧ decDigits u = decDigits m ++ acc) ∧ w = wr)
  case atStart => exact ⟨u, ⟨#[]⟩, rfl, Nat.le_refl _, rfl, rfl, by simp [ByteArray.size], hid ⟨[], rfl, by simp⟩, rfl⟩
  case round =>
    obtain ⟨m, X, rfl, hm, rfl, rfl, hXs, HA, rfl⟩ := hrel
    have HE := hid (show ∀ d : Nat, d < 10 → (⟨#[48, 49, 50, 51, 52, 53, 54, 55, 56, 57]⟩ : ByteArray).extract d (d + 1) = mk [UInt8.ofNat (48 + d)] from fun d hd => row_at hd)
    by_cases h9 : 9 < gk
    · have k9 : (9 : Int) < gk := by omega
      have hd10 : gk % 10 < 10 := by omega
      obtain ⟨Y, hY⟩ : ∃ Y, (⟨#[48, 49, 50, 51, 52, 53, 54, 55, 56, 57]⟩ : ByteArray).extract (gk % 10) (gk % 10 + 1) = Y := ⟨_, rfl⟩
      have hYm : Y = mk [UInt8.ofNat (48 + gk % 10)] := by rw [← hY]; exact HE.out _ hd10
      have hYs : Y.size = 1 := by rw [hYm, mk_size]; rfl
      have hcat : ¬ 9223372036854775807 < Y.size + X.size := by omega
      have HN : Hid (∃ acc, Y ++ X = mk acc ∧ decDigits u = decDigits (gk / 10) ++ acc ∧ acc.length ≤ 20) := by
        obtain ⟨acc, h1, h2⟩ := HA.out
        have h3 : decDigits u = decDigits (gk / 10) ++ (UInt8.ofNat (48 + gk % 10) :: acc) := by rw [h2, Ln.dec_big (by omega)]; simp
        refine ⟨UInt8.ofNat (48 + gk % 10) :: acc, by rw [hYm, h1, mk_append]; rfl, h3, ?_⟩
        have := congrArg List.length h3
        simp only [List.length_append] at this
        omega
      have HYm := hid hYm
      clear hYm HA
      go_wp2_with fail
      go_roundg (gk / 10)
      case measure => omega
      case rel => exact ⟨gk / 10, Y ++ X, rfl, by omega, by simp, rfl, by obtain ⟨acc, h1, _, h3⟩ := HN.out; rw [h1, mk_size]; exact h3, hid (by obtain ⟨acc, h1, h2, _⟩ := HN.out; exact ⟨acc, h1, h2⟩), rfl⟩
    · have k9 : ¬ (9 : Int) < gk := by omega
      obtain ⟨Y, hY⟩ : ∃ Y, (⟨#[48, 49, 50, 51, 52, 53, 54, 55, 56, 57]⟩ : ByteArray).extract gk (gk + 1) = Y := ⟨_, rfl⟩
      have hYm : Y = mk [UInt8.ofNat (48 + gk)] := by rw [← hY]; exact HE.out _ (by omega)
      have hYs : Y.size = 1 := by rw [hYm, mk_size]; rfl
      have hcat : ¬ 9223372036854775807 < Y.size + X.size := by omega
      have HN : Hid (Y ++ X = mk (decDigits u)) := by
        obtain ⟨acc, h1, h2⟩ := HA.out
        show Y ++ X = _
        rw [h2, Ln.dec_small (by omega), hYm, h1, mk_append]
      have HYm := hid hYm
      clear hYm HA
      go_wp2_with fail
      go_ret
      exact ⟨by rw [← HN.out]; rfl, rfl⟩

set_option maxRecDepth 100000 in
set_option maxHeartbeats 3200000 in
theorem rDigits_calls (n : Int) (h0 : -9223372036854775808 ≤ n) (h1 : n ≤ 9223372036854775807) (w : World) :
    Calls Tryd.prog 18 #[.int .i64 n] w fun e w' => e = .returned (.string (mk (itoa n))) ∧ w' = w := by
  have hlen := Go.Lib.itoa_length_le n h0 h1
  by_cases hneg : n < 0
  · obtain ⟨u, rfl⟩ : ∃ u : Nat, n = -(u : Int) := ⟨n.natAbs, by omega⟩
    have HI := hid (Go.Lib.itoa_neg u (by omega))
    have e1 : IntKind.i64.wrap (-(u : Int) + 1) = -(u : Int) + 1 := i64_in (by omega) (by omega)
    have e2 : IntKind.i64.wrap (-(-(u : Int) + 1)) = (u : Int) - 1 := by rw [i64_in (by omega) (by omega)]; omega
    have e3 : IntKind.u64.wrap ((u : Int) - 1) = (u : Int) - 1 := u64_in (by omega) (by omega)
    have e4 : IntKind.u64.wrap ((u : Int) - 1 + 1) = (u : Int) := by rw [u64_in (by omega) (by omega)]; omega
    obtain ⟨X, hX⟩ : ∃ X, mk (decDigits u) = X := ⟨_, rfl⟩
    have hXs : X.size ≤ 21 := by
      rw [← hX, mk_size]
      rw [HI.out] at hlen
      simp at hlen
      omega
    have hcat : ¬ 9223372036854775807 < (⟨#[45]⟩ : ByteArray).size + X.size := by
      have : (⟨#[45]⟩ : ByteArray).size = 1 := rfl
      omega
    have HX := hid hX
    have HR := hid (show (⟨#[45]⟩ : ByteArray) ++ X = mk (itoa (-(u : Int))) by rw [HI.out, ← hX]; exact mk_append [45] _)
    clear hX hlen
    go_enter Tryd.func18, Tryd.ntmps18
    go_wp2_with fail
    refine (rdigits_calls u (by omega) _).mono ?_
    rintro e w' ⟨rfl, hw'⟩
    subst hw'
    rw [HX.out]
    go_wp2_with fail
    go_ret
    exact ⟨by rw [← HR.out]; rfl, rfl⟩
  · obtain ⟨u, rfl⟩ : ∃ u : Nat, n = u := ⟨n.toNat, by omega⟩
    have HI := hid (Go.Lib.itoa_nonneg u)
    have e3 : IntKind.u64.wrap (u : Int) = u := u64_in (by omega) (by omega)
    obtain ⟨X, hX⟩ : ∃ X, mk (decDigits u) = X := ⟨_, rfl⟩
    have HX := hid hX
    clear hX hlen
    go_enter Tryd.func18, Tryd.ntmps18
    go_wp2_with fail
    refine (rdigits_calls u (by omega) _).mono ?_
    rintro e w' ⟨rfl, hw'⟩
    subst hw'
    rw [HX.out]
    go_wp2_with fail
    go_ret
    exact ⟨by rw [HI.out, HX.out]; rfl, rfl⟩
end Go.Proofs.YthemaacfjmcbnaaDoor
