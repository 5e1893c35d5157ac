/-
  The walk of the reference's Number.
-/
import Derived.Test.YthemaacfjmcbnaaDoorLnN2
namespace Go.Proofs.YthemaacfjmcbnaaDoor
open Go.RowKit
open Go.Lib (decDigits itoa)
set_option linter.unusedVariables false

theorem gF_by {s : ByteArray} {n : Nat} {f : Nat → Int} (hS : St s n f) {i : Nat} (hi : i < n) : Ln.gF (by_ s) i = f i := by
  obtain ⟨x, _, hx, hx2⟩ := by_get (s := s) (i := i) (by rw [hS.size]; exact hi)
  have h2 := (St.any s).get i (by rw [hS.size]; exact hi)
  have h3 := hS.get i (by rw [hS.size]; exact hi)
  unfold Ln.gF
  rw [List.getD_eq_getElem?_getD, hx2]
  show ((x.toNat : Nat) : Int) = f i
  rw [hx, ← h2, h3]
theorem num_text {s : ByteArray} {n : Nat} {f : Nat → Int} (hS : St s n f) (hd : Ln.Dg f n) (h0 : 0 < n) : mk (itoa (Ln.vF f n)) = s ↔ ¬ (1 < n ∧ f 0 = 48) := by
  have hl : (by_ s).length = n := by rw [by_length, hS.size]
  have hv : Ln.vF f n = Ln.vF (Ln.gF (by_ s)) (by_ s).length := by rw [hl]; exact Ln.vF_congr (fun i hi => (gF_by hS hi).symm)
  have hd' : Ln.Dg (Ln.gF (by_ s)) (by_ s).length := by rw [hl]; exact hd.congr (fun i hi => (gF_by hS hi).symm)
  have hi : itoa (Ln.vF f n) = decDigits (Ln.vF f n).toNat := by
    have := (Ln.vF_bd hd).1
    unfold itoa
    rw [if_neg (by omega)]
  rw [hi]
  constructor
  · intro he hz
    have hb : by_ s = decDigits (Ln.vF f n).toNat := by rw [← he, by_mk]
    have := Ln.dec_head (Ln.vF f n).toNat
    rw [← hb, hl, gF_by hS h0] at this
    exact this hz
  · intro hz
    rw [hv, Ln.dec_of (by_ s) (fun e => by rw [e] at hl; simp at hl; omega) hd' (by rw [hl, gF_by hS h0]; exact hz), mk_by]

/-- What the reference's Number answers. -/
def RNum (f : Nat → Int) (n : Nat) (e : Ending) : Prop :=
  (Ln.Num f n ∧ e = .returned (.int .i64 (Ln.vF f n))) ∨ (¬ Ln.Num f n ∧ e = .returned (.int .i64 (-1)))

set_option maxRecDepth 100000 in
set_option maxHeartbeats 3200000 in
theorem rnumber_calls (s : ByteArray) (n : Nat) (f : Nat → Int) (w : World) (hn : n ≤ 100000) (hS : St s n f) :
    Calls Tryd.prog 24 #[.string s] w fun e w' => RNum f n e ∧ w' = w := by
  have hE0 : n = 0 → s = ⟨#[]⟩ := fun h => by_inj (List.eq_nil_of_length_eq_zero (by rw [by_length, hS.size, h]))
  have hE1 : n ≠ 0 → s ≠ ⟨#[]⟩ := fun h e => h (by rw [← hS.size, e]; rfl)
  have HS := hid hS
  obtain ⟨hsz, hget, hbd⟩ := hS
  have HBD := hid hbd
  clear hbd
  by_cases h0 : n = 0
  · have he1 := (empty_yes (hE0 h0)).1
    have he2 := (empty_yes (hE0 h0)).2
    clear hE0 hE1
    go_enter Tryd.func24, Tryd.ntmps24
    go_wp2_with fail
    go_ret
    exact ⟨.inr ⟨fun h => by have := h.1; omega, rfl⟩, rfl⟩
  have he1 := (empty_no (hE1 h0)).1
  have he2 := (empty_no (hE1 h0)).2
  clear hE0 hE1
  by_cases h7 : 7 < n
  · have k7 : (7 : Int) < n := by omega
    go_enter Tryd.func24, Tryd.ntmps24
    go_wp2_with fail
    go_ret
    exact ⟨.inr ⟨fun h => by have := h.2.1; omega, rfl⟩, rfl⟩
  have k7 : ¬ (7 : Int) < n := by omega
  go_enter Tryd.func24, Tryd.ntmps24
  go_wp2_with fail
  go_loopg [3, 4] n (fun r nv iv wr => ∃ j : Nat, r = n - j ∧ j ≤ n ∧ iv = .int .i64 j ∧ Hid (Ln.Dg f j) ∧ nv = .int .i64 (Ln.vF f j) ∧ w = wr)
  case atStart => exact ⟨0, rfl, by omega, rfl, hid (fun i hi => by omega), rfl, rfl⟩
  case round =>
    obtain ⟨j, rfl, hj, rfl, HD, rfl, rfl⟩ := hrel
    obtain ⟨V, hV⟩ : ∃ V, Ln.vF f j = V := ⟨_, rfl⟩
    have hVb := Ln.vF_bd7 HD.out (by omega)
    rw [hV] at hVb ⊢
    have HV := hid hV
    clear hV
    by_cases hlt : j < n
    · have l0 : (0 : Int) ≤ j := by omega
      have l1 : (j : Int) < n := by omega
      have e2 : IntKind.i64.wrap ((j : Int) + 1) = j + 1 := i64_in (by omega) (by omega)
      have hb := HBD.out j
      by_cases hd : 48 ≤ f j ∧ f j ≤ 57
      · obtain ⟨d1, d2⟩ := hd
        have d1' : ¬ f j < 48 := by omega
        have d2' : ¬ 57 < f j := by omega
        have e4 : IntKind.i64.wrap (f j) = f j := i64_in (by omega) (by omega)
        have e5 : IntKind.i64.wrap (10 * V) = 10 * V := i64_in (by omega) (by omega)
        have e6 : IntKind.i64.wrap (10 * V + f j) = 10 * V + f j := i64_in (by omega) (by omega)
        have e7 : IntKind.i64.wrap (10 * V + f j - 48) = 10 * V + f j - 48 := i64_in (by omega) (by omega)
        go_wp2_with fail
        go_roundg (n - (j + 1))
        case measure => omega
        case rel => exact ⟨j + 1, rfl, by omega, by go_num, hid (fun i hi => by
          by_cases e : i < j
          · exact HD.out i e
          · obtain rfl : i = j := by omega
            exact ⟨d1, d2⟩), by rw [Ln.vF, HV.out]; congr 1; omega, rfl⟩
      · have HND := hid (show ¬ Ln.Num f n from fun h => hd (h.2.2.2 j hlt))
        by_cases d1 : f j < 48
        · go_wp2_with fail
          go_ret
          exact ⟨.inr ⟨HND.out, rfl⟩, rfl⟩
        · have d2 : 57 < f j := by omega
          go_wp2_with fail
          go_ret
          exact ⟨.inr ⟨HND.out, rfl⟩, rfl⟩
    · have l1 : ¬ (j : Int) < n := by omega
      obtain rfl : j = n := by omega
      have HT := hid (num_text HS.out HD.out (by omega))
      rw [HV.out] at HT
      obtain ⟨X, hX⟩ : ∃ X, mk (itoa V) = X := ⟨_, rfl⟩
      have HX := hid hX
      rw [hX] at HT
      clear hX
      go_wp2_with fail
      refine (rDigits_calls V (by omega) (by omega) _).mono ?_
      rintro e w' ⟨rfl, hw'⟩
      subst hw'
      rw [HX.out]
      by_cases hz : 1 < j ∧ f 0 = 48
      · have hne : (X.toList == s.toList) = false := by
          rw [beq_eq_false_iff_ne]; exact fun he => HT.out.1 (toList_inj he) hz
        have HND := hid (show ¬ Ln.Num f j from fun h => h.2.2.1 hz)
        clear hz
        go_wp2_with fail
        go_ret
        exact ⟨.inr ⟨HND.out, rfl⟩, rfl⟩
      · have hXs := HT.out.2 hz
        have HZ := hid hz
        subst hXs
        have hne : (X.toList == X.toList) = true := beq_self_eq_true _
        clear hz
        go_wp2_with fail
        go_ret
        exact ⟨.inl ⟨⟨by omega, by omega, HZ.out, HD.out⟩, by rw [HV.out]; rfl⟩, rfl⟩

end Go.Proofs.YthemaacfjmcbnaaDoor
