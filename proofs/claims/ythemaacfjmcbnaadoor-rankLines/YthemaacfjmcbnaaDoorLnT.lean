/-
  The walk of strings.TrimSuffix at a line feed.
-/
import Derived.Test.YthemaacfjmcbnaaDoorLnP
namespace Go.Proofs.YthemaacfjmcbnaaDoor
open Go.RowKit
set_option linter.unusedVariables false

def lf : ByteArray := ⟨#[10]⟩
theorem trim_yes {s : ByteArray} {M : Nat} (hz : s.size = M + 1) (h : bytesF s M = 10) : s.extract M (M + 1) = lf ∧ s.extract 0 M = mk (Ln.trim (by_ s)) := by
  obtain ⟨x, e, hx, hx2⟩ := by_get (s := s) (i := M) (by omega)
  have hx10 : x = 10 := UInt8.toNat_inj.1 (by show x.toNat = 10; omega)
  subst hx10
  have hl : (by_ s).length = M + 1 := by rw [by_length, hz]
  have hd : (by_ s).drop M = [10] := by rw [e, List.drop_eq_nil_of_le (by omega)]
  have hs : by_ s = (by_ s).take M ++ [10] := by
    conv => lhs; rw [← List.take_append_drop M (by_ s)]
    rw [hd]
  constructor
  · apply by_inj
    rw [by_extract, List.take_of_length_le (by omega), hd]
    rfl
  · rw [← mk_extract, List.drop_zero]
    congr 1
    conv => rhs; rw [hs]
    rw [Ln.trim_snoc]
theorem trim_no {s : ByteArray} {M : Nat} (hz : s.size = M + 1) (h : bytesF s M ≠ 10) : s.extract M (M + 1) ≠ lf ∧ s = mk (Ln.trim (by_ s)) := by
  obtain ⟨x, e, hx, hx2⟩ := by_get (s := s) (i := M) (by omega)
  have hx10 : x ≠ 10 := by rintro rfl; exact h (by rw [← hx]; rfl)
  have hl : (by_ s).length = M + 1 := by rw [by_length, hz]
  have hd : (by_ s).drop M = [x] := by rw [e, List.drop_eq_nil_of_le (by omega)]
  constructor
  · intro he
    have := congrArg by_ he
    rw [by_extract, List.take_of_length_le (by omega), hd] at this
    exact hx10 (by simpa [lf, by_] using this)
  · have hla : (by_ s).getLast? = some x := by rw [List.getLast?_eq_getElem?, hl]; exact hx2
    rw [Ln.trim, if_neg (by rw [hla]; simpa using hx10), mk_by]
theorem trim_none {s : ByteArray} (hz : s.size = 0) : s = mk (Ln.trim (by_ s)) := by
  have : by_ s = [] := List.eq_nil_of_length_eq_zero (by rw [by_length, hz])
  rw [Ln.trim, if_neg (by rw [this]; simp), mk_by]

set_option maxRecDepth 100000 in
set_option maxHeartbeats 1600000 in
theorem trim_calls (s : ByteArray) (hsz : s.size ≤ 1048576) (w : World) : Calls Tryd.prog 31 #[.string s, .string ⟨#[10]⟩] w fun e w' => e = .returned (.string (mk (Ln.trim (by_ s)))) ∧ w' = w := by
  obtain ⟨N, hN⟩ : ∃ N, s.size = N := ⟨_, rfl⟩
  cases N with
  | zero =>
    have HT := hid (trim_none hN)
    go_enter Tryd.func31, Tryd.ntmps31
    go_wp2
    go_ret
    exact ⟨by rw [← HT.out]; rfl, rfl⟩
  | succ M =>
    have k1 : (1 : Int) ≤ (M : Int) + 1 := by omega
    have e1 : IntKind.i64.wrap ((M : Int) + 1 - 1) = M := by rw [i64_in (by omega) (by omega)]; omega
    have k2 : (M : Int) ≤ (M : Int) + 1 := by omega
    have k3 : (0 : Int) ≤ M := by omega
    by_cases h : bytesF s M = 10
    · have HT := hid (trim_yes hN h)
      have hx : ((s.extract M (M + 1)).toList == [10]) = true := by rw [HT.out.1, by_toList]; rfl
      go_enter Tryd.func31, Tryd.ntmps31
      go_wp2
      go_ret
      exact ⟨by rw [← HT.out.2]; rfl, rfl⟩
    · have HT := hid (trim_no hN h)
      have hx : ((s.extract M (M + 1)).toList == [10]) = false := by
        rw [beq_eq_false_iff_ne, by_toList]; exact fun he => HT.out.1 (by_inj he)
      go_enter Tryd.func31, Tryd.ntmps31
      go_wp2
      go_ret
      exact ⟨by rw [← HT.out.2]; rfl, rfl⟩
end Go.Proofs.YthemaacfjmcbnaaDoor
