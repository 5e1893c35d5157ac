/-
  Walk of what is being merged: end.
-/
import Derived.Test.YtcjakjmhghoilaaEnJ
namespace Go.Proofs.Ytcjakjmhghoilaa
open Go.RowKit Go.Maps
set_option linter.unusedVariables false
open Pr (it)
open Hp (Ent lt wo Dis)
theorem iv_take_next {xs : Pr.Row} {j : Nat} (h : j < xs.length) : iv (xs.take j) ++ [.int .i64 (it xs j)] = iv (xs.take (j + 1)) := by
  rw [List.take_add_one, Pr.it_get h]
  simp [iv]
section
variable {w0 w : World} {R K O M D N : Nat} {v : Value} {l : List Ent} {ms : List Mg4} {ids ls nx : Nat → Int}
set_option maxRecDepth 100000 in
set_option maxHeartbeats 6400000 in
theorem eend_calls (h : Rm w0 w R K O M D N v l ms ids ls nx) {L : Pr.Ch} (hL : Pr.Lk L N (-1) ids nx ls) (hz : (N = 0 ∧ L.length = 0) ∨ (0 < L.length ∧ Pr.pl L 0 = 0)) :
    Calls Try.prog 33 #[.pointer (some ⟨R, 0, none⟩)] w fun e w' => EnOut (Pr.toks L) e w' ∧ Below w.heap.size w w' := by
  obtain ⟨i0, hi, hz0, hz1, hz2⟩ := info_parts Try.infoInt
  have hN9 := h.N9
  have H := hid h
  have HL := hid hL
  have hlL : L.length ≤ N := by
    rcases Nat.eq_zero_or_pos L.length with e | e
    · omega
    · have key : ∀ j, j < L.length → j ≤ Pr.pl L j := fun j => by
        induction j with
        | zero => exact fun _ => Nat.zero_le _
        | succ j ih => exact fun hj => by have := ih (by omega); have := Pr.asc_lt hL.asc (show j < j + 1 by omega) hj; omega
      have a1 := key (L.length - 1) (by omega)
      have a2 := hL.lt (L.length - 1) (by omega)
      omega
  have HZ := hid (show (0 : Int) = if 0 < L.length then (Pr.pl L 0 : Int) else N from by
    rcases hz with ⟨e1, e2⟩ | ⟨e1, e2⟩
    · rw [if_neg (by omega), e1]; rfl
    · rw [if_pos e1, e2]; rfl)
  have O0 := hid (show w.ownsRow w.heap.size 3 1 (.slice none 0 0) 0 (iv ((Pr.toks L).take 0)) from World.ownsRow_nil _ _ _ _)
  obtain ⟨nL, hnL⟩ : ∃ n, L.length = n := ⟨_, rfl⟩
  have HnL := hid hnL
  rw [hnL] at hlL HZ
  clear h hL hz hnL
  go_enter Try.func33, Try.ntmps33
  go_wp2_with fail
  go_loopg [3, 4] nL (fun r rv kv wr => ∃ (j : Nat) (u : Value) (k : Int), r = nL - j ∧ u = rv ∧ kv = .int .i64 k ∧ j ≤ nL ∧ Hid (k = if j < nL then (Pr.pl L j : Int) else N) ∧ Hid (wr.ownsRow w.heap.size 3 1 u j (iv ((Pr.toks L).take j))) ∧ Hid (Below w.heap.size w wr))
  case atStart => exact ⟨0, _, 0, rfl, rfl, rfl, by omega, HZ, O0, hid (Below.refl _ _)⟩
  case round =>
    clear O0 HZ
    obtain ⟨j, u, k, rfl, rfl, rfl, hj, HK, HO, HB⟩ := hrel
    have HR := hid (H.out.below HB.out)
    have c0 := HR.out.blk.cell0
    by_cases hlt : j < nL
    · have hp := HL.out.lt j (by rw [HnL.out]; exact hlt)
      have hkk := HK.out
      rw [if_pos hlt] at hkk
      have hnx := HL.out.nx j (by rw [HnL.out]; exact hlt)
      have htk := HL.out.ids j (by rw [HnL.out]; exact hlt)
      obtain ⟨p, hpd⟩ : ∃ p, Pr.pl L j = p := ⟨_, rfl⟩
      rw [hpd] at hp hkk hnx htk
      subst hkk
      have k0 : (0 : Int) ≤ p := by omega
      have k1 : (p : Int) < N := by omega
      obtain ⟨p0, p1, p2⟩ := HR.out.row.at' hp
      obtain ⟨y0, hy0⟩ : ∃ y, ids p = y := ⟨_, rfl⟩
      obtain ⟨y2, hy2⟩ : ∃ y, nx p = y := ⟨_, rfl⟩
      rw [hy0] at p0 htk
      rw [hy2] at p2 hnx
      have HY2 := hid hnx
      have HYe := hid hy2
      have HT := hid (show iv ((Pr.toks L).take j) ++ [.int .i64 y0] = iv ((Pr.toks L).take (j + 1)) from by
        have := iv_take_next (xs := Pr.toks L) (j := j) (by rw [Pr.toks_len, HnL.out]; exact hlt)
        rwa [Pr.toks_it L (by rw [HnL.out]; exact hlt), ← htk] at this)
      have sz := HB.out.size
      clear hpd hy0 hy2 hnx htk p1
      go_wp2_with (at_builtin; refine wpList_append_src rfl _ _ 36 rfl w.heap.size 3 i0 _ 1 8 Try.underlying36 hi hz0 hz1 hz2 rfl (by decide) u j (iv ((Pr.toks L).take j)) rfl (HO.out.alloc _) (some ⟨wr.heap.size, 0, none⟩) 1 1 [.int .i64 y0] rfl (Src.new #[.int .i64 y0] 3 wr.heap.size rfl rfl (fun u hu => by simp at hu; subst hu; rfl)) (by unfold maxLen; omega) (by omega) (by simp; omega) ?_; intro v4 w4 ho4 hg4 hb4; have O4 := hid (show w4.ownsRow w.heap.size 3 1 v4 (j + 1) (iv ((Pr.toks L).take (j + 1))) from by rw [← HT.out]; exact ho4); have B4 := hid (((HB.out.alloc sz (.cells #[.int .i64 y0] 3)).grown hg4 (by simp; omega) (fun k e => by have := (HO.out.lt k e).1; omega))); have c4 := (H.out.below B4.out).blk.cell0; have p4 := ((H.out.below B4.out).row.at' hp).2.2; have Y4 := hid (H.out.below B4.out); clear ho4 hg4 hb4)
      go_roundg (nL - (j + 1))
      case measure => omega
      case rel => exact ⟨j + 1, v4, nx p, rfl, rfl, rfl, by omega, hid (by have h := HY2.out; rw [HnL.out] at h; rw [HYe.out]; exact h), O4, B4⟩
    · have hkk := HK.out
      rw [if_neg hlt] at hkk
      subst hkk
      have k1 : ¬ (N : Int) < N := by omega
      have hjn : nL = j := by omega
      have HI := hid (show wr.ownsRow w.heap.size 3 1 u (Pr.toks L).length (iv (Pr.toks L)) from by
        have h1 := HO.out
        rw [List.take_of_length_le (by rw [Pr.toks_len, HnL.out]; omega)] at h1
        rw [Pr.toks_len, HnL.out, hjn]
        exact h1)
      clear HO hjn
      obtain ⟨ao, co, rfl, hI⟩ := Ir.ofOwn HI.out
      have I2 := hid hI
      clear hI HI
      go_wp2_with fail
      go_ret
      exact ⟨⟨_, _, _, rfl, I2.out⟩, HB.out⟩
end
end Go.Proofs.Ytcjakjmhghoilaa
