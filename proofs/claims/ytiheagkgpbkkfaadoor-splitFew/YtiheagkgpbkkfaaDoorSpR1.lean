/-
  The reference's run: the bytes in a row at a text's place, as a string.
-/
import Derived.Test.YtiheagkgpbkkfaaDoorSpM
import Derived.Test.YtiheagkgpbkkfaaDoorLotW
import Derived.Deep.LoopGhost
namespace Go.Proofs.YtiheagkgpbkkfaaDoor
open Go.RowKit
set_option linter.unusedVariables false
open Pr (it)
theorem u8_sp {n : Int} (h0 : 0 ≤ n) (h1 : n ≤ 255) : IntKind.u8.wrap n = n := by
  rw [IntKind.wrap_u8]; omega
set_option maxRecDepth 100000 in
set_option maxHeartbeats 1600000 in
theorem sprun_calls {w : World} {a : Option Addr} {n c : Nat} {xs : Pr.Row} (h : Ir w a n c xs) (i : Nat) (hi : i ≤ n) (hn : n ≤ 100000) :
    Calls Tryd.prog 24 #[.slice a n c, .int .i64 (i : Nat)] w fun e w' => e = .returned (.string (str (Sp.fn (Sp.run (xs.drop i))) (Sp.rl (xs.drop i)))) ∧ Below w.heap.size w w' := by
  obtain ⟨i0, hi0, hz0, hz1, hz2⟩ := info_parts Tryd.info8
  have HH := hid h
  have HL := hid h.len
  have BD := hid (Sp.run_bd (xs.drop i))
  have hR : Sp.rl (xs.drop i) ≤ n - i := by have := Sp.rl_le (xs.drop i); rw [List.length_drop, h.len] at this; exact this
  have O0 := hid (own_empty (w := w) (base := w.heap.size) (e := 5) (size := 1) w.heap.size rfl (Nat.le_refl _))
  have B0 := hid ((Below.refl w.heap.size w).alloc (Nat.le_refl _) (.cells #[] 5))
  have NX : Hid (∀ j, j ≤ Sp.rl (xs.drop i) → i + j < n → if Sp.isB (it xs (i + j)) = true then j < Sp.rl (xs.drop i) else j = Sp.rl (xs.drop i)) := fun j h1 h2 => by
    have := Sp.rl_next (l := xs.drop i) h1 (by rw [List.length_drop, h.len]; omega)
    rw [Pr.it_drop] at this
    exact this
  have IT : Hid (∀ j, j < Sp.rl (xs.drop i) → Sp.fn (Sp.run (xs.drop i)) j = it xs (i + j)) := fun j h1 => by
    rw [Sp.run_it h1, Pr.it_drop]
  obtain ⟨g, hg⟩ : ∃ g, Sp.fn (Sp.run (xs.drop i)) = g := ⟨_, rfl⟩
  obtain ⟨m, hm⟩ : ∃ m, Sp.rl (xs.drop i) = m := ⟨_, rfl⟩
  rw [hg] at BD IT ⊢
  rw [hm] at hR NX IT ⊢
  clear h hg hm
  go_enter Tryd.func24, Tryd.ntmps24
  go_wp2_with fail
  go_loopg [5, 6] (n - i) (fun r bv iv wr => ∃ j : Nat, r = n - (i + j) ∧ j ≤ m ∧ i + j ≤ n ∧ iv = .int .i64 ((i + j : Nat) : Int) ∧ Hid (wr.ownsRow w.heap.size 5 1 bv j (vals g j)) ∧ Hid (Below w.heap.size w wr))
  case atStart => exact ⟨0, by omega, by omega, by omega, rfl, O0, B0⟩
  case round =>
    obtain ⟨j, rfl, hj, hjn, rfl, HO, HB⟩ := hrel
    by_cases hlt : i + j < n
    · have k1 : ((i + j : Nat) : Int) < n := by omega
      have k0 : (0 : Int) ≤ ((i + j : Nat) : Int) := by omega
      have e2 : IntKind.i64.wrap (((i + j : Nat) : Int) + 1) = ((i + (j + 1) : Nat) : Int) := by rw [i64_in (by omega) (by omega)]; omega
      obtain ⟨b, off, rfl, hbl, hc⟩ := (HH.out.below HB.out).at' (by omega)
      have p0 := hc (i + j) hlt
      have nx := NX.out j hj hlt
      have it' := IT.out j
      obtain ⟨x, hx⟩ : ∃ x, it xs (i + j) = x := ⟨_, rfl⟩
      rw [hx] at p0 nx it'
      clear hc hx
      by_cases hlo : x < 0
      · have hb : Sp.isB x = false := by unfold Sp.isB; simp; omega
        rw [if_neg (by rw [hb]; decide)] at nx
        subst nx
        obtain ⟨a5, c5, rfl, hs5⟩ := Sl.own HO.out BD.out
        have cv := run_convert_sl (P := Tryd.prog) wr 37 5 9 Tryd.underlying37 Tryd.underlying5 Tryd.underlying9 hs5
        clear HO hs5
        go_wp2_with fail
        go_ret
        exact ⟨rfl, HB.out⟩
      · by_cases hhi : 255 < x
        · have hb : Sp.isB x = false := by unfold Sp.isB; simp; omega
          rw [if_neg (by rw [hb]; decide)] at nx
          subst nx
          obtain ⟨a5, c5, rfl, hs5⟩ := Sl.own HO.out BD.out
          have cv := run_convert_sl (P := Tryd.prog) wr 37 5 9 Tryd.underlying37 Tryd.underlying5 Tryd.underlying9 hs5
          clear HO hs5
          go_wp2_with fail
          go_ret
          exact ⟨rfl, HB.out⟩
        · have hb : Sp.isB x = true := Sp.isB_iff.2 ⟨by omega, by omega⟩
          rw [if_pos hb] at nx
          have e3 : IntKind.u8.wrap x = x := u8_sp (by omega) (by omega)
          have ex := it' nx
          have sz := HB.out.size
          have SX := hid (Sl.one (w := wr) (x0 := x) 5 (fun _ => x) (fun _ => ⟨by omega, by omega⟩) rfl)
          clear it'
          go_wp2_with (at_builtin; refine wpList_append_sl rfl _ _ 37 rfl w.heap.size 5 i0 Tryd.underlying37 hi0 hz0 hz1 hz2 _ j g rfl (HO.out.alloc _) (some ⟨wr.heap.size, 0, none⟩) 1 1 _ rfl SX.out (by omega) (by simp; omega) ?_; intro v4 w4 ho4 hg4; have O4 := hid ho4; have G4 := hid hg4; clear ho4 hg4)
          have B4 := hid ((HB.out.alloc sz _).grown G4.out (by simp; omega) (fun k hk => (HO.out.lt k hk).1))
          have O5 := hid (show w4.ownsRow w.heap.size 5 1 v4 (j + 1) (vals g (j + 1)) from by
            have h := O4.out
            rw [vals_congr (g := g) (fun q hq => by
              by_cases hqj : q < j
              · exact cat_lt hqj
              · rw [cat_ge (by omega)]
                obtain rfl : q = j := by omega
                exact ex.symm)] at h
            exact h)
          clear O4 G4 HO
          go_wp2_with fail
          go_roundg (n - (i + (j + 1)))
          case measure => omega
          case rel => exact ⟨j + 1, rfl, by omega, by omega, by go_num, O5, B4⟩
    · have k1 : ¬ (((i + j : Nat) : Int) < n) := by omega
      have nx : j = m := by omega
      subst nx
      obtain ⟨a5, c5, rfl, hs5⟩ := Sl.own HO.out BD.out
      have cv := run_convert_sl (P := Tryd.prog) wr 37 5 9 Tryd.underlying37 Tryd.underlying5 Tryd.underlying9 hs5
      clear HO hs5
      go_wp2_with fail
      go_ret
      exact ⟨rfl, HB.out⟩
end Go.Proofs.YtiheagkgpbkkfaaDoor
