/-
  Walks of vocab.sizeOf, vocab.tokensOf.
-/
import Derived.Test.YtjpboackbjfenaaVcMathB
import Derived.Test.YtjpboackbjfenaaVcW7
import Derived.Test.YtjpboackbjfenaaVcW5
namespace Go.Proofs.Ytjpboackbjfenaa
open Go.RowKit
set_option linter.unusedVariables false

/-- What sizeOf answers. -/
def SzOut (rs sp : Vc.Sps) (e : Ending) : Prop :=
  ((∀ i, i < rs.length → Vc.Num (kat rs i)) ∧ (∀ i, i < sp.length → Vc.Num (kat sp i)) ∧ ∃ N : Nat, Vc.Sz rs sp N ∧ N ≤ 4096 ∧ e = .returned (.tuple #[.int .i64 (N : Int), .bool true])) ∨
  ((¬ ((∀ i, i < rs.length → Vc.Num (kat rs i)) ∧ (∀ i, i < sp.length → Vc.Num (kat sp i)))) ∧ e = .returned (.tuple #[.int .i64 0, .bool false]))

theorem max_up {N : Nat} {x : Int} (h : Vc.Num x) : ∃ N' : Nat, N ≤ N' ∧ x + 1 ≤ (N' : Int) ∧ ((N' = N) ∨ (N' : Int) = x + 1) ∧ (if (N : Int) < x + 1 then x + 1 else (N : Int)) = (N' : Int) ∧ max (N : Int) (x + 1) = (N' : Int) ∧ (N ≤ 4096 → N' ≤ 4096) := by
  obtain ⟨h0, h1⟩ := h
  by_cases hc : (N : Int) < x + 1
  · exact ⟨(x + 1).toNat, by omega, by omega, by omega, by rw [if_pos hc]; omega, by omega, by omega⟩
  · exact ⟨N, by omega, by omega, by omega, by rw [if_neg hc], by omega, fun h => h⟩

set_option maxRecDepth 100000 in
set_option maxHeartbeats 3200000 in
theorem sizeOf_calls {w : World} {a az : Option Addr} {n c ns cs : Nat} {rs sp : Vc.Sps} (V : Rw w a n c rs) (Q : Rw w az ns cs sp) :
    Calls Try.prog 64 #[.slice a n c, .slice az ns cs] w fun e w' => SzOut rs sp e ∧ Below w.heap.size w w' := by
  have hl := V.len
  have hls := Q.len
  have hx : n ≤ 9223372036854775807 := by have := V.le; have := V.mx; unfold maxLen at this; omega
  have hxs : ns ≤ 9223372036854775807 := by have := Q.le; have := Q.mx; unfold maxLen at this; omega
  have TW := hid V
  have QW := hid Q
  clear V Q
  go_enter Try.func64, Try.ntmps64
  go_wp2_with fail
  go_loopg [6, 13] n (fun r sv iv wr => ∃ j N : Nat, r = n - j ∧ sv = .int .i64 (N : Int) ∧ iv = .int .i64 (j : Int) ∧ j ≤ n ∧ N ≤ 4096 ∧ Hid (∀ i, i < j → Vc.Num (kat rs i) ∧ kat rs i + 1 ≤ (N : Int)) ∧ Hid (N = 0 ∨ ∃ i, i < rs.length ∧ kat rs i + 1 = (N : Int)) ∧ Hid (Below w.heap.size w wr))
  case atStart => exact ⟨0, 0, rfl, rfl, rfl, by omega, by omega, hid (fun i hi => by omega), hid (.inl rfl), hid (Below.refl _ _)⟩
  case round =>
    obtain ⟨j, N, rfl, rfl, rfl, hj, hN, HA, HT, HB⟩ := hrel
    by_cases hlt : j < n
    · have l0 : (0 : Int) ≤ j := by omega
      have l1 : (j : Int) < n := by omega
      have l2 : IntKind.i64.wrap ((j : Int) + 1) = j + 1 := i64_in (by omega) (by omega)
      obtain ⟨b, off, rfl, hbl, hc⟩ := (TW.out.below HB.out).at' (by omega)
      obtain ⟨q1, q2⟩ := hc j hlt
      obtain ⟨t, ht⟩ : ∃ t, tat rs j = t := ⟨_, rfl⟩
      obtain ⟨x, hx1⟩ : ∃ x, kat rs j = x := ⟨_, rfl⟩
      rw [ht] at q1
      rw [hx1] at q2
      have HX := hid hx1
      clear hc ht hx1
      have HB2 := hid (HB.out.alloc HB.out.size (.cells #[.string t, .int .i64 x] 32))
      go_wp2_with fail
      refine (mayNumber_calls x _).mono ?_
      rintro e w2 ⟨⟨u, rfl, hu⟩, rfl⟩
      have HU := hid hu
      clear hu
      cases u
      · have HN := hid (show ¬ ((∀ i, i < rs.length → Vc.Num (kat rs i)) ∧ (∀ i, i < sp.length → Vc.Num (kat sp i))) from fun h => by
          have := h.1 j (by omega)
          rw [HX.out] at this
          exact absurd (HU.out.2 this) (by decide))
        go_wp2_with fail
        go_ret2
        exact ⟨.inr ⟨HN.out, rfl⟩, HB2.out⟩
      · have hnum := HU.out.1 rfl
        obtain ⟨N', a1, a2, a3, a4, a5, a6⟩ := max_up (N := N) hnum
        have l3 : IntKind.i64.wrap (x + 1) = x + 1 := i64_in (by have := hnum.1; omega) (by have := hnum.2; omega)
        have HM := hid hnum
        have A1 := hid a1
        have A2 := hid a2
        have A3 := hid a3
        have A6 := hid a6
        clear hnum a1 a2 a3 a6 HU
        go_wp2_with fail
        go_roundg (n - (j + 1))
        case measure => omega
        case rel => exact ⟨j + 1, N', rfl, by go_num, by go_num, by omega, A6.out hN, hid (fun i hi => by
          by_cases h : i < j
          · have q := HA.out i h; have := A1.out; exact ⟨q.1, by omega⟩
          · obtain rfl : i = j := by omega
            rw [HX.out]; exact ⟨HM.out, A2.out⟩), hid (by
          rcases A3.out with h | h
          · rw [h]; exact HT.out
          · exact .inr ⟨j, by omega, by rw [HX.out]; exact h.symm⟩), HB2⟩
    · obtain rfl : j = n := by omega
      have k1 : ¬ ((j : Int) < j) := by omega
      go_wp2_with fail
      go_loopg [6, 29] ns (fun r sv iv w2 => ∃ j2 N2 : Nat, r = ns - j2 ∧ sv = .int .i64 (N2 : Int) ∧ iv = .int .i64 (j2 : Int) ∧ j2 ≤ ns ∧ N ≤ N2 ∧ N2 ≤ 4096 ∧ Hid (∀ i, i < j2 → Vc.Num (kat sp i) ∧ kat sp i + 1 ≤ (N2 : Int)) ∧ Hid (N2 = N ∨ ∃ i, i < sp.length ∧ kat sp i + 1 = (N2 : Int)) ∧ Hid (Below w.heap.size w w2))
      case atStart => exact ⟨0, N, rfl, rfl, rfl, by omega, by omega, hN, hid (fun i hi => by omega), hid (.inl rfl), HB⟩
      case round =>
        obtain ⟨j2, N2, rfl, rfl, rfl, hj2, hN1, hN2, HC, HD, HE⟩ := hrel
        by_cases hlt : j2 < ns
        · have l0 : (0 : Int) ≤ j2 := by omega
          have l1 : (j2 : Int) < ns := by omega
          have l2 : IntKind.i64.wrap ((j2 : Int) + 1) = j2 + 1 := i64_in (by omega) (by omega)
          obtain ⟨b, off, rfl, hbl, hc⟩ := (QW.out.below HE.out).at' (by omega)
          obtain ⟨q1, q2⟩ := hc j2 hlt
          obtain ⟨t, ht⟩ : ∃ t, tat sp j2 = t := ⟨_, rfl⟩
          obtain ⟨x, hx1⟩ : ∃ x, kat sp j2 = x := ⟨_, rfl⟩
          rw [ht] at q1
          rw [hx1] at q2
          have HX := hid hx1
          clear hc ht hx1
          have HB2 := hid (HE.out.alloc HE.out.size (.cells #[.string t, .int .i64 x] 49))
          go_wp2_with fail
          refine (mayNumber_calls x _).mono ?_
          rintro e w2 ⟨⟨u, rfl, hu⟩, rfl⟩
          have HU := hid hu
          clear hu
          cases u
          · have HN := hid (show ¬ ((∀ i, i < rs.length → Vc.Num (kat rs i)) ∧ (∀ i, i < sp.length → Vc.Num (kat sp i))) from fun h => by
              have := h.2 j2 (by omega)
              rw [HX.out] at this
              exact absurd (HU.out.2 this) (by decide))
            go_wp2_with fail
            go_ret2
            exact ⟨.inr ⟨HN.out, rfl⟩, HB2.out⟩
          · have hnum := HU.out.1 rfl
            obtain ⟨N', a1, a2, a3, a4, a5, a6⟩ := max_up (N := N2) hnum
            have l3 : IntKind.i64.wrap (x + 1) = x + 1 := i64_in (by have := hnum.1; omega) (by have := hnum.2; omega)
            have HM := hid hnum
            have A1 := hid a1
            have A2 := hid a2
            have A3 := hid a3
            have A6 := hid a6
            clear hnum a1 a2 a3 a6 HU
            go_wp2_with fail
            go_roundg (ns - (j2 + 1))
            case measure => omega
            case rel => exact ⟨j2 + 1, N', rfl, by go_num, by go_num, by omega, by have := A1.out; omega, A6.out hN2, hid (fun i hi => by
              by_cases h : i < j2
              · have q := HC.out i h; have := A1.out; exact ⟨q.1, by omega⟩
              · obtain rfl : i = j2 := by omega
                rw [HX.out]; exact ⟨HM.out, A2.out⟩), hid (by
              rcases A3.out with h | h
              · rw [h]; exact HD.out
              · exact .inr ⟨j2, by omega, by rw [HX.out]; exact h.symm⟩), HB2⟩
        · have k1 : ¬ ((j2 : Int) < ns) := by omega
          have HN := hid (show Vc.Sz rs sp N2 from ⟨fun i hi => by have := (HA.out i (by omega)).2; omega, fun i hi => (HC.out i (by omega)).2, by
            rcases HD.out with h | h
            · rcases HT.out with h2 | ⟨i, hi, h2⟩
              · exact .inl (by omega)
              · exact .inr (.inl ⟨i, hi, by omega⟩)
            · exact .inr (.inr h)⟩)
          go_wp2_with fail
          go_ret2
          exact ⟨.inl ⟨fun i hi => (HA.out i (by omega)).1, fun i hi => (HC.out i (by omega)).1, N2, HN.out, hN2, rfl⟩, HE.out⟩
end Go.Proofs.Ytjpboackbjfenaa
