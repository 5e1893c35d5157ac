/-
  Walk of what is being merged: join.
-/
import Derived.Test.YtcjakjmhghoilaaEnA
import Derived.BigRegion
import Derived.Deep.RegionLaw
namespace Go.Proofs.Ytcjakjmhghoilaa
open Go.RowKit Go.Maps
set_option linter.unusedVariables false
open Pr (it)
open Hp (Ent lt wo Dis)
section
variable {w0 w : World} {R K O M D N : Nat} {v : Value} {l : List Ent} {ms : List Mg4} {ids ls nx : Nat → Int}
theorem Pr.Lk.nx_or {L : Pr.Ch} {z : Int} (h : Pr.Lk L N z ids nx ls) {j : Nat} (hj : j < L.length) : nx (Pr.pl L j) = N ∨ ∃ z : Nat, nx (Pr.pl L j) = z ∧ z < N := by
  by_cases g : j + 1 < L.length
  · exact .inr ⟨_, h.nx_in g, h.lt _ g⟩
  · exact .inl (h.nx_end hj g)
set_option maxRecDepth 100000 in
set_option maxHeartbeats 6400000 in
theorem ejoin_calls (h : Rm w0 w R K O M D N v l ms ids ls nx) {L : Pr.Ch} (hL : Pr.Lk L N (-1) ids nx ls) {i : Nat} (hi : i + 1 < L.length) (o : Int) (ho : (Lit.int .i64 o).wf = true) :
    Calls Try.prog 34 #[.pointer (some ⟨R, 0, none⟩), .int .i64 (Pr.pl L i : Int), .int .i64 o] w fun e w' => e = .returned (.tuple #[]) ∧ ∃ ids' ls' nx', RmOut w0 w' R K O M D N (Pr.jl ms L i o l) ms ids' ls' nx' ∧ Pr.Lk (Pr.mg L i o) N (-1) ids' nx' ls' := by
  have hp := hL.lt i (by omega)
  have hq := hL.lt (i + 1) hi
  have hlen := Pr.mg_len hi o
  have hpl := Pr.pl_mg o hi
  have hN9 := h.N9
  -- the row behind, whichever way
  have HM1 := hid (fun ls' hls => hL.merge hi o (ls' := ls') hls)
  have hpi : Pr.pl (Pr.mg L i o) i = Pr.pl L i := by rw [hpl, if_pos (Nat.le_refl _)]
  have hpt : Pr.pl (Pr.mg L i o) (i - 1) = Pr.pl L (i - 1) := by rw [hpl, if_pos (by omega)]
  have hnp := hL.nx_in hi
  have hnq := hL.nx_or hi
  have h2 := hL.nx (i + 1) hi
  have hlt2 := hL.lt (i + 2)
  have HG := hid (fun (ids' ls' nx' : Nat → Int) (g : Pr.Lk (Pr.mg L i o) N (-1) ids' nx' ls') =>
    show ((0 < i → ls' (Pr.pl L i) = (Pr.pl L (i - 1) : Int)) ∧ (0 < i → Pr.pl L (i - 1) < N ∧ (nx' (Pr.pl L (i - 1)) = N ∨ ∃ z : Nat, nx' (Pr.pl L (i - 1)) = z ∧ z < N))) ∧ (¬ 0 < i → ls' (Pr.pl L i) = -1) ∧ (nx' (Pr.pl L i) = N ∨ ∃ z : Nat, nx' (Pr.pl L i) = z ∧ z < N) ∧
      ((0 < i → Pr.jl ms L i o l = Pr.awf ms ids' nx' N (Pr.pl L (i - 1)) (Pr.awf ms ids' nx' N (Pr.pl L i) (wo l (Pr.pl L (i + 1))))) ∧ (¬ 0 < i → Pr.jl ms L i o l = Pr.awf ms ids' nx' N (Pr.pl L i) (wo l (Pr.pl L (i + 1))))) from by
      have a1 := g.ls i (by omega)
      have a2 := g.nx_or (j := i) (by omega)
      have a3 := g.awf (ms := ms) (i := i) (by omega) (wo l (Pr.pl L (i + 1)))
      rw [hpi] at a1 a2 a3
      rw [hpt] at a1
      refine ⟨⟨fun e => by rw [a1, if_pos e], fun e => ?_⟩, fun e => by rw [a1, if_neg e], a2, fun e => ?_, fun e => ?_⟩
      · have b1 := g.lt (i - 1) (by omega)
        have b2 := g.nx_or (j := i - 1) (by omega)
        rw [hpt] at b1 b2
        exact ⟨b1, b2⟩
      · have b3 := g.awf (ms := ms) (i := i - 1) (by omega) (Pr.aw ms (Pr.mg L i o) i (wo l (Pr.pl L (i + 1))))
        rw [hpt] at b3
        unfold Pr.jl
        rw [if_pos e, a3, b3]
      · unfold Pr.jl
        rw [if_neg e, a3])
  have hne : Pr.pl L i ≠ Pr.pl L (i + 1) := fun e => by have := Pr.asc_lt hL.asc (show i < i + 1 by omega) hi; omega
  obtain ⟨p, hpd⟩ : ∃ p, Pr.pl L i = p := ⟨_, rfl⟩
  obtain ⟨q, hqd⟩ : ∃ q, Pr.pl L (i + 1) = q := ⟨_, rfl⟩
  obtain ⟨t, htd⟩ : ∃ t, Pr.pl L (i - 1) = t := ⟨_, rfl⟩
  obtain ⟨r, hrd⟩ : ∃ r, Pr.pl L (i + 2) = r := ⟨_, rfl⟩
  rw [show i + 1 + 1 = i + 2 from rfl, hrd] at h2
  rw [hrd] at hlt2 HM1
  rw [hpd] at hp hnp HG hne HM1
  rw [hqd] at hq hnp hnq h2 HG hne HM1
  rw [htd] at HG
  rw [hpd]
  obtain ⟨nq, hnqd⟩ : ∃ y, nx q = y := ⟨_, rfl⟩
  rw [hnqd] at hnq h2 HM1
  have k0 : (0 : Int) ≤ p := by omega
  have k1 : (p : Int) < N := by omega
  have j0 : (0 : Int) ≤ q := by omega
  have j1 : (q : Int) < N := by omega
  have HQ := hid hnqd
  have H2q := hid h2
  clear h2
  have HNp := hid hnp
  have HNe := hid hne
  have HO := hid ho
  have H0 := hid h
  have c0 := h.blk.cell0
  have c2 := h.blk.cell2
  have p2 := (h.row.at' hp).2.2
  rw [hnp] at p2
  clear h hpd hqd htd hrd hnqd hL hpl hpi hpt hnp hne ho
  go_enter Try.func34, Try.ntmps34
  go_wp2_with fail
  refine (sdrop H0.out.q (q : Int) (key_wf (by omega)) (by have := H0.out.len; omega)).mono ?_
  rintro e w1 ⟨t1, rfl, _, o1⟩
  obtain ⟨v1, h1⟩ := H0.out.step o1 (fun x hx => .inl (Hp.wo_mem.1 hx).1)
  have H2 := hid (h1.set0 hp o HO.out)
  have c1 := h1.blk.cell0
  have x1 := (h1.row.at' hp).1
  have f1 := h1.row.fr (p * 3)
  clear o1 h1 c0 c2 p2 H0
  go_wp2_with fail
  obtain ⟨w2, hw2⟩ : ∃ W, w1.setCell ⟨K, p * 3, none⟩ (.int .i64 o) = W := ⟨_, rfl⟩
  rw [hw2] at H2 ⊢
  clear hw2 c1 x1 f1
  have c2 := H2.out.blk.cell0
  have x2 := (H2.out.row.at' hq).2.2
  rw [HQ.out] at x2
  have y2 := (H2.out.row.at' hp).2.2
  have f2 := H2.out.row.fr (p * 3 + 2)
  have H3 := hid (H2.out.set2 hp nq).drew
  go_region
  obtain ⟨w3, hw3⟩ : ∃ W, (w2.setCell ⟨K, p * 3 + 2, none⟩ (.int .i64 nq)).drew = W := ⟨_, rfl⟩
  show Exit.then _ _ Exit.normal _ (w2.setCell ⟨K, p * 3 + 2, none⟩ (.int .i64 nq)).drew
  rw [hw3] at H3 ⊢
  clear hw3 c2 x2 y2 f2 H2
  have c3 := H3.out.blk.cell0
  have x3 := (H3.out.row.at' hp).2.2
  rw [Pr.up_at] at x3
  have h2 := H2q.out
  by_cases hi2 : i + 2 < L.length
  · rw [if_pos hi2] at h2
    have hr := hlt2 hi2
    have HL := hid (HM1.out _ (.inl ⟨hi2, rfl⟩))
    obtain ⟨HT, HT0, HX, HJ0⟩ : (Hid _ ∧ Hid _ ∧ Hid _ ∧ Hid _) := by
      obtain ⟨b1, b2, b3, b4⟩ := HG.out _ _ _ HL.out
      exact ⟨hid b1, hid b2, hid b3, hid b4⟩
    subst h2
    have r0 : (0 : Int) ≤ r := by omega
    have r1 : (r : Int) < N := by omega
    have y3 := (H3.out.row.at' hr).2.1
    have f3 := H3.out.row.fr (r * 3 + 1)
    have H4 := hid (H3.out.set1 hr (p : Int))
    clear HM1 HG hnq hlt2
    go_wp2_with fail
    refine (eawait_calls H4.out hp HX.out).mono ?_
    rintro e w5 ⟨rfl, v5, h5⟩
    have H5 := hid h5
    have c5 := h5.blk.cell0
    have e5 := (h5.row.at' hp).2.1
    clear h5
    by_cases hi0 : 0 < i
    · have hls : Pr.up ls r (p : Int) p = (t : Int) := HT.out.1 hi0
      have ht := (HT.out.2 hi0).1
      have hnt := (HT.out.2 hi0).2
      have HJ := hid (HJ0.out.1 hi0)
      rw [hls] at e5
      have t0 : (0 : Int) ≤ t := by omega
      clear hls
      go_wp2_with fail
      refine (eawait_calls H5.out ht hnt).mono ?_
      rintro e w6 ⟨rfl, o6⟩
      have O6 := hid o6
      clear o6
      go_wp2_with fail
      go_end0
      exact ⟨rfl, _, _, _, by rw [HJ.out]; exact O6.out, HL.out⟩
    · have hls : Pr.up ls r (p : Int) p = -1 := HT0.out hi0
      have HJ := hid (HJ0.out.2 hi0)
      rw [hls] at e5
      clear hls
      go_wp2_with fail
      go_end0
      exact ⟨rfl, _, _, _, by rw [HJ.out]; exact ⟨v5, H5.out⟩, HL.out⟩
  · rw [if_neg hi2] at h2
    have HL := hid (HM1.out _ (.inr ⟨hi2, rfl⟩))
    obtain ⟨HT, HT0, HX, HJ0⟩ : (Hid _ ∧ Hid _ ∧ Hid _ ∧ Hid _) := by
      obtain ⟨b1, b2, b3, b4⟩ := HG.out _ _ _ HL.out
      exact ⟨hid b1, hid b2, hid b3, hid b4⟩
    subst h2
    have r1 : ¬ (N : Int) < N := by omega
    clear HM1 HG hnq hlt2
    go_wp2_with fail
    refine (eawait_calls H3.out hp HX.out).mono ?_
    rintro e w5 ⟨rfl, v5, h5⟩
    have H5 := hid h5
    have c5 := h5.blk.cell0
    have e5 := (h5.row.at' hp).2.1
    clear h5
    by_cases hi0 : 0 < i
    · have hls : ls p = (t : Int) := HT.out.1 hi0
      have ht := (HT.out.2 hi0).1
      have hnt := (HT.out.2 hi0).2
      have HJ := hid (HJ0.out.1 hi0)
      rw [hls] at e5
      have t0 : (0 : Int) ≤ t := by omega
      clear hls
      go_wp2_with fail
      refine (eawait_calls H5.out ht hnt).mono ?_
      rintro e w6 ⟨rfl, o6⟩
      have O6 := hid o6
      clear o6
      go_wp2_with fail
      go_end0
      exact ⟨rfl, _, _, _, by rw [HJ.out]; exact O6.out, HL.out⟩
    · have hls : ls p = -1 := HT0.out hi0
      have HJ := hid (HJ0.out.2 hi0)
      rw [hls] at e5
      clear hls
      go_wp2_with fail
      go_end0
      exact ⟨rfl, _, _, _, by rw [HJ.out]; exact ⟨v5, H5.out⟩, HL.out⟩
end
end Go.Proofs.Ytcjakjmhghoilaa
