/-
  The walk of rank.Write.
-/
import Derived.Test.YthemaacfjmcbnaaDoorRkE1
namespace Go.Proofs.YthemaacfjmcbnaaDoor
open Go.RowKit
open Go.Lib (decDigits itoa)
set_option linter.unusedVariables false

/-- What Write answers. -/
def WrOut (xs : List (ByteArray × Int)) (e : Ending) (w' : World) : Prop :=
  (Rk.All xs ∧ ∃ a c, e = .returned (.tuple #[.slice a (Rk.fileL xs).length c, .bool true]) ∧ Sl w' a (Rk.fileL xs).length c (bytesF (mk (Rk.fileL xs)))) ∨
  (¬ Rk.All xs ∧ e = .returned (.tuple #[.slice none 0 0, .bool false]))

set_option maxRecDepth 100000 in
set_option maxHeartbeats 1600000 in
theorem write_calls {w : World} {a : Option Addr} {n c : Nat} {xs : List (ByteArray × Int)} (h1 : Rw w a n c xs) (hn : n ≤ 100) (ht : Tab w) :
    Calls Tryd.prog 7 #[.slice a n c] w fun e w' => WrOut xs e w' ∧ Below w.heap.size w w' := by
  obtain ⟨i0, hi, hz0, hz1, hz2⟩ := info_parts Tryd.infoB
  have H1 := hid h1
  have HT := hid ht
  have hl := h1.len
  clear h1 ht
  have hn' : ¬ (4096 : Int) < n := by omega
  go_enter Tryd.func7, Tryd.ntmps7
  go_wp2_with fail
  refine (containsFunc_calls H1.out (by omega)).mono ?_
  rintro e w1 ⟨ho, hb1⟩
  have B1 := hid hb1
  clear hb1
  rcases ho.of with ⟨rfl, h⟩ | ⟨rfl, h⟩
  · have HN := hid (show ¬ Rk.All xs from fun hh => h ((Rk.all_iff hl).1 hh))
    clear ho h
    go_wp2_with fail
    go_ret2
    exact ⟨.inr ⟨HN.out, rfl⟩, B1.out⟩
  have HA := hid ((Rk.all_iff hl).2 (Classical.byContradiction fun hh => h hh))
  clear ho h
  go_wp2_with fail
  have H2 := hid (H1.out.below B1.out)
  have T2 := hid (HT.out.below B1.out)
  go_loopg [5, 18] n (fun r v iv wr => ∃ j : Nat, r = n - j ∧ j ≤ n ∧ iv = .int .i64 j ∧ Hid (wr.ownsRow w1.heap.size 5 1 v (Rk.fileL (xs.take j)).length (Rk.bv (Rk.fileL (xs.take j)))) ∧ Hid (Below w1.heap.size w1 wr))
  case atStart => exact ⟨0, rfl, by omega, rfl, hid (World.ownsRow_nil _ _ _ _), hid (Below.refl _ _)⟩
  case round =>
    obtain ⟨j, rfl, hj, rfl, HO, HB⟩ := hrel
    have B2 := hid (B1.out.trans (HB.out.mono B1.out.size))
    by_cases hlt : j < n
    · have k1 : (j : Int) < n := by omega
      have k0 : (0 : Int) ≤ j := by omega
      have e2 : IntKind.i64.wrap ((j : Int) + 1) = j + 1 := i64_in (by omega) (by omega)
      obtain ⟨b, off, rfl, _, hc⟩ := (H2.out.below HB.out).at' (by omega)
      obtain ⟨q1, p1⟩ := hc j hlt
      obtain ⟨t, ht⟩ : ∃ t, tat xs j = t := ⟨_, rfl⟩
      obtain ⟨k, hk⟩ : ∃ k, kat xs j = k := ⟨_, rfl⟩
      have HMy := hid ((Rk.all_iff hl).1 HA.out j hlt)
      rw [ht] at q1 HMy
      rw [hk] at p1 HMy
      have HF := hid (show Rk.fileL (xs.take (j + 1)) = Rk.fileL (xs.take j) ++ (Rk.lnL t k ++ [10]) by rw [Rk.take_snoc (by omega) ht hk, Rk.fileL_snoc])
      have hlen := Rk.file_len (HA.out.take j)
      have hlen2 := Rk.ln_len HMy.out
      have hlen3 : (xs.take j).length = j := by rw [List.length_take]; omega
      obtain ⟨m, hm⟩ : ∃ m, (Rk.fileL (xs.take j)).length = m := ⟨_, rfl⟩
      rw [hm] at HO hlen
      have hsz : (Rk.lnS t k).size = (Rk.lnL t k).length + 1 := by unfold Rk.lnS; rw [mk_size]; simp
      have hm97 : m ≤ 9700 := by omega
      have hs97 : (Rk.lnS t k).size ≤ 97 := by omega
      have HM := hid hm
      have HSZ := hid hsz
      have B3 := hid (B2.out.alloc B2.out.size (.cells #[.string t, .int .i64 k] 25))
      have HB3 := hid (HB.out.alloc HB.out.size (.cells #[.string t, .int .i64 k] 25))
      have O3 := hid (HO.out.alloc (.cells #[.string t, .int .i64 k] 25))
      have T3 := hid (T2.out.below HB3.out)
      clear hc ht hk hlen hlen2 hlen3 hm hsz HO
      go_wp2_with fail
      refine (lineOf_calls t k _ T3.out HMy.out).mono ?_
      rintro e w2 ⟨rfl, hb2⟩
      have B4 := hid (B3.out.trans (hb2.mono B3.out.size))
      have HB4 := hid (HB3.out.trans (hb2.mono HB3.out.size))
      have O4 := hid (own_below O3.out hb2)
      have s4 := HB4.out.size
      clear hb2 O3 q1 p1
      go_wp2_with (at_builtin; refine Lib.wpList_append_own_string (w := w2) rfl _ _ 26 9 rfl w1.heap.size 5 i0 Tryd.underlying26 Tryd.underlying9 hi hz0 hz1 hz2 _ _ _ rfl O4.out (Rk.lnS t k) rfl (by unfold maxLen; omega) (by omega) (by omega) ?_)
      intro v5 w5 ho5 hg5 _
      have HB5 := hid (HB4.out.grown hg5 (by omega) (fun j hj => (O4.out.lt j hj).1))
      have O5 := hid (show w5.ownsRow w1.heap.size 5 1 v5 (Rk.fileL (xs.take (j + 1))).length (Rk.bv (Rk.fileL (xs.take (j + 1)))) by
        rw [HF.out, ← Rk.bv_append, List.length_append, HM.out, List.length_append, List.length_singleton, ← HSZ.out]
        exact ho5)
      clear ho5 hg5
      go_wp2_with fail
      go_roundg (n - (j + 1))
      case measure => omega
      case rel => exact ⟨j + 1, rfl, by omega, by go_num, O5, HB5⟩
    · obtain rfl : j = n := by omega
      have k1 : ¬ (j : Int) < j := by omega
      have ho := HO.out
      rw [List.take_of_length_le (by omega), Rk.bv_vals] at ho
      obtain ⟨a5, c5, rfl, hs5⟩ := Sl.own ho (St.any _).bd
      have S5 := hid hs5
      clear ho hs5 HO
      go_wp2_with fail
      go_ret2
      exact ⟨.inl ⟨HA.out, a5, c5, rfl, S5.out⟩, B2.out⟩
end Go.Proofs.YthemaacfjmcbnaaDoor
