/-
  The walk of line.Number.
-/
import Derived.Test.YthemaacfjmcbnaaDoorLnR
import Derived.Test.YthemaacfjmcbnaaDoorLnNum
namespace Go.Proofs.YthemaacfjmcbnaaDoor
open Go.RowKit
set_option linter.unusedVariables false

/-- What Number answers. -/
def NumOut (f : Nat → Int) (n : Nat) (e : Ending) : Prop :=
  (Ln.Num f n ∧ e = .returned (.tuple #[.int .i64 (Ln.vF f n), .bool true])) ∨ (¬ Ln.Num f n ∧ e = .returned (.tuple #[.int .i64 0, .bool false]))

theorem u8_in {n : Int} (h0 : 0 ≤ n) (h1 : n ≤ 255) : IntKind.u8.wrap n = n := by
  rw [IntKind.wrap_u8]; omega

set_option maxRecDepth 100000 in
set_option maxHeartbeats 3200000 in
theorem number_calls (s : ByteArray) (n : Nat) (f : Nat → Int) (w : World) (hn : n ≤ 100000) (hS : St s n f) :
    Calls Tryd.prog 34 #[.string s] w fun e w' => NumOut f n e ∧ w' = w := by
  have hE0 : n = 0 → s = ⟨#[]⟩ := fun h => by_inj (List.eq_nil_of_length_eq_zero (by rw [by_length, hS.size, h]))
  have hE1 : n ≠ 0 → s ≠ ⟨#[]⟩ := fun h e => h (by rw [← hS.size, e]; rfl)
  obtain ⟨hsz, hget, hbd⟩ := hS
  have HBD := hid hbd
  clear hbd
  by_cases h0 : n = 0
  · have he1 := (empty_yes (hE0 h0)).1
    have he2 := (empty_yes (hE0 h0)).2
    clear hE0 hE1
    go_enter Tryd.func34, Tryd.ntmps34
    go_wp2_with fail
    go_ret2
    exact ⟨.inr ⟨fun h => by have := h.1; omega, rfl⟩, rfl⟩
  have he1 := (empty_no (hE1 h0)).1
  have he2 := (empty_no (hE1 h0)).2
  clear hE0 hE1
  by_cases h7 : 7 < n
  · have k7 : (7 : Int) < n := by omega
    go_enter Tryd.func34, Tryd.ntmps34
    go_wp2_with fail
    go_ret2
    exact ⟨.inr ⟨fun h => by have := h.2.1; omega, rfl⟩, rfl⟩
  have k7 : ¬ (7 : Int) < n := by omega
  by_cases hz : 1 < n ∧ f 0 = 48
  · obtain ⟨hz1, hz2⟩ := hz
    have k1 : (1 : Int) < n := by omega
    have k0 : (0 : Int) < n := by omega
    go_enter Tryd.func34, Tryd.ntmps34
    go_wp2_with fail
    go_ret2
    exact ⟨.inr ⟨fun h => h.2.2.1 ⟨hz1, hz2⟩, rfl⟩, rfl⟩
  have HZ := hid hz
  have hgd : (1 < n ∧ f 0 ≠ 48) ∨ ¬ 1 < n := by
    by_cases h1 : 1 < n
    · exact .inl ⟨h1, fun e => hz ⟨h1, e⟩⟩
    · exact .inr h1
  clear hz
  go_enter Tryd.func34, Tryd.ntmps34
  have k0 : (0 : Int) < n := by omega
  rcases hgd with ⟨h1, h2⟩ | h1
  · have k1 : (1 : Int) < n := by omega
    go_wp2_with fail
    go_loopg [4, 25] n (fun r nv iv wr => ∃ j : Nat, r = n - j ∧ j ≤ n ∧ iv = .int .i64 j ∧ Hid (Ln.Dg f j) ∧ nv = .int .i64 (Ln.vF f j) ∧ wr = w)
    case atStart => exact ⟨0, rfl, by omega, rfl, hid (fun i hi => by omega), rfl, rfl⟩
    case round =>
      obtain ⟨j, rfl, hj, rfl, HD, rfl, rfl⟩ := hrel
      obtain ⟨V, hV⟩ : ∃ V, Ln.vF f j = V := ⟨_, rfl⟩
      have hVb := Ln.vF_bd7 HD.out (by omega)
      rw [hV] at hVb ⊢
      have HV := hid hV
      clear hV
      by_cases hlt : j < n
      · have l0 : (0 : Int) ≤ j := by omega
        have l1 : (j : Int) < n := by omega
        have e2 : IntKind.i64.wrap ((j : Int) + 1) = j + 1 := i64_in (by omega) (by omega)
        have hb := HBD.out j
        by_cases hd : 48 ≤ f j ∧ f j ≤ 57
        · obtain ⟨d1, d2⟩ := hd
          have d1' : ¬ f j < 48 := by omega
          have d2' : ¬ 57 < f j := by omega
          have e3 : IntKind.u8.wrap (f j - 48) = f j - 48 := u8_in (by omega) (by omega)
          have e4 : IntKind.i64.wrap (f j - 48) = f j - 48 := i64_in (by omega) (by omega)
          have e5 : IntKind.i64.wrap (10 * V) = 10 * V := i64_in (by omega) (by omega)
          have e6 : IntKind.i64.wrap (10 * V + (f j - 48)) = 10 * V + (f j - 48) := i64_in (by omega) (by omega)
          go_wp2_with fail
          go_roundg (n - (j + 1))
          case measure => omega
          case rel => exact ⟨j + 1, rfl, by omega, by go_num, hid (fun i hi => by
            by_cases e : i < j
            · exact HD.out i e
            · obtain rfl : i = j := by omega
              exact ⟨d1, d2⟩), by rw [Ln.vF, HV.out], rfl⟩
        · have HND := hid (show ¬ Ln.Num f n from fun h => hd (h.2.2.2 j hlt))
          by_cases d1 : f j < 48
          · go_wp2_with fail
            go_ret2
            exact ⟨.inr ⟨HND.out, rfl⟩, rfl⟩
          · have d2 : 57 < f j := by omega
            go_wp2_with fail
            go_ret2
            exact ⟨.inr ⟨HND.out, rfl⟩, rfl⟩
      · have l1 : ¬ (j : Int) < n := by omega
        obtain rfl : j = n := by omega
        go_wp2_with fail
        go_ret2
        exact ⟨.inl ⟨⟨by omega, by omega, HZ.out, HD.out⟩, by rw [HV.out]; rfl⟩, rfl⟩
  · have k1 : ¬ (1 : Int) < n := by omega
    go_wp2_with fail
    go_loopg [4, 25] n (fun r nv iv wr => ∃ j : Nat, r = n - j ∧ j ≤ n ∧ iv = .int .i64 j ∧ Hid (Ln.Dg f j) ∧ nv = .int .i64 (Ln.vF f j) ∧ wr = w)
    case atStart => exact ⟨0, rfl, by omega, rfl, hid (fun i hi => by omega), rfl, rfl⟩
    case round =>
      obtain ⟨j, rfl, hj, rfl, HD, rfl, rfl⟩ := hrel
      obtain ⟨V, hV⟩ : ∃ V, Ln.vF f j = V := ⟨_, rfl⟩
      have hVb := Ln.vF_bd7 HD.out (by omega)
      rw [hV] at hVb ⊢
      have HV := hid hV
      clear hV
      by_cases hlt : j < n
      · have l0 : (0 : Int) ≤ j := by omega
        have l1 : (j : Int) < n := by omega
        have e2 : IntKind.i64.wrap ((j : Int) + 1) = j + 1 := i64_in (by omega) (by omega)
        have hb := HBD.out j
        by_cases hd : 48 ≤ f j ∧ f j ≤ 57
        · obtain ⟨d1, d2⟩ := hd
          have d1' : ¬ f j < 48 := by omega
          have d2' : ¬ 57 < f j := by omega
          have e3 : IntKind.u8.wrap (f j - 48) = f j - 48 := u8_in (by omega) (by omega)
          have e4 : IntKind.i64.wrap (f j - 48) = f j - 48 := i64_in (by omega) (by omega)
          have e5 : IntKind.i64.wrap (10 * V) = 10 * V := i64_in (by omega) (by omega)
          have e6 : IntKind.i64.wrap (10 * V + (f j - 48)) = 10 * V + (f j - 48) := i64_in (by omega) (by omega)
          go_wp2_with fail
          go_roundg (n - (j + 1))
          case measure => omega
          case rel => exact ⟨j + 1, rfl, by omega, by go_num, hid (fun i hi => by
            by_cases e : i < j
            · exact HD.out i e
            · obtain rfl : i = j := by omega
              exact ⟨d1, d2⟩), by rw [Ln.vF, HV.out], rfl⟩
        · have HND := hid (show ¬ Ln.Num f n from fun h => hd (h.2.2.2 j hlt))
          by_cases d1 : f j < 48
          · go_wp2_with fail
            go_ret2
            exact ⟨.inr ⟨HND.out, rfl⟩, rfl⟩
          · have d2 : 57 < f j := by omega
            go_wp2_with fail
            go_ret2
            exact ⟨.inr ⟨HND.out, rfl⟩, rfl⟩
      · have l1 : ¬ (j : Int) < n := by omega
        obtain rfl : j = n := by omega
        go_wp2_with fail
        go_ret2
        exact ⟨.inl ⟨⟨by omega, by omega, HZ.out, HD.out⟩, by rw [HV.out]; rfl⟩, rfl⟩
end Go.Proofs.YthemaacfjmcbnaaDoor
