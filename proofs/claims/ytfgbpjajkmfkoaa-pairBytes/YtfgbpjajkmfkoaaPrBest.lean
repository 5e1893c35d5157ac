/-
  Walk of a table's Best.
-/
import Derived.Test.YtfgbpjajkmfkoaaPrFind
import Derived.Deep.RegionHeld3
namespace Go.Proofs.Ytfgbpjajkmfkoaa
open Go.RowKit Go.Maps
open Pr (it)
set_option linter.unusedVariables false

namespace Pr
def plc (q : Option (Nat × Nat)) : Int := match q with | none => 0 | some x => x.1
def mrg (ms : List Mg4) (q : Option (Nat × Nat)) : Mg4 := match q with | none => (0, 0, 0, 0) | some x => mat ms x.2
def has (q : Option (Nat × Nat)) : Bool := match q with | none => false | some _ => true
/-- One place more: what was best stays, or the new one is. -/
theorem bst_ways (ms : List Mg4) (xs : Row) (j : Nat) :
    (fb ms (it xs j) (it xs (j + 1)) = false ∧ bst ms xs (j + 1) = bst ms xs j) ∨
    (fb ms (it xs j) (it xs (j + 1)) = true ∧ has (bst ms xs j) = false ∧ plc (bst ms xs (j + 1)) = j ∧ mrg ms (bst ms xs (j + 1)) = fm ms (it xs j) (it xs (j + 1)) ∧ has (bst ms xs (j + 1)) = true) ∨
    (fb ms (it xs j) (it xs (j + 1)) = true ∧ has (bst ms xs j) = true ∧ (fm ms (it xs j) (it xs (j + 1))).2.2.2 < (mrg ms (bst ms xs j)).2.2.2 ∧ plc (bst ms xs (j + 1)) = j ∧ mrg ms (bst ms xs (j + 1)) = fm ms (it xs j) (it xs (j + 1)) ∧ has (bst ms xs (j + 1)) = true) ∨
    (fb ms (it xs j) (it xs (j + 1)) = true ∧ has (bst ms xs j) = true ∧ ¬ (fm ms (it xs j) (it xs (j + 1))).2.2.2 < (mrg ms (bst ms xs j)).2.2.2 ∧ bst ms xs (j + 1) = bst ms xs j) := by
  unfold fb fm
  cases hf : fnd ms (it xs j) (it xs (j + 1)) with
  | none => exact .inl ⟨rfl, bst_none' hf⟩
  | some k =>
    right
    cases hb : bst ms xs j with
    | none =>
      rw [bst_new hf hb]
      exact .inl ⟨rfl, rfl, rfl, rfl, rfl⟩
    | some q =>
      obtain ⟨p, b⟩ := q
      by_cases hl : ord ms k < ord ms b
      · rw [bst_less hf hb hl]
        exact .inr (.inl ⟨rfl, rfl, hl, rfl, rfl, rfl⟩)
      · rw [bst_keep hf hb hl]
        exact .inr (.inr ⟨rfl, rfl, hl, rfl⟩)
end Pr

theorem quad_cell {W : World} {R b o : Nat} (hne : b ≠ R) (x y z u : Value) : ((((W.setCell ⟨R, 0, none⟩ x).setCell ⟨R, 1, none⟩ y).setCell ⟨R, 2, none⟩ z).setCell ⟨R, 3, none⟩ u).cell? ⟨b, o, none⟩ = W.cell? ⟨b, o, none⟩ := by
  have h : ((((W.setCell ⟨R, 0, none⟩ x).setCell ⟨R, 1, none⟩ y).setCell ⟨R, 2, none⟩ z).setCell ⟨R, 3, none⟩ u).heap[b]? = W.heap[b]? := by
    rw [Below.heap_setCell _ _ _ _ (by simpa using hne), Below.heap_setCell _ _ _ _ (by simpa using hne), Below.heap_setCell _ _ _ _ (by simpa using hne), Below.heap_setCell _ _ _ _ (by simpa using hne)]
  exact World.cell?_of_block h
theorem quad_drew {W : World} {R b o : Nat} (hne : b ≠ R) (x y z u : Value) : ((((W.setCell ⟨R, 0, none⟩ x).setCell ⟨R, 1, none⟩ y).setCell ⟨R, 2, none⟩ z).setCell ⟨R, 3, none⟩ u).drew.cell? ⟨b, o, none⟩ = W.cell? ⟨b, o, none⟩ := quad_cell hne x y z u
/-- A block that was laid ahead of a call. -/
theorem fresh4 {wr w2 : World} {t : TypeId} {x y z u : Value} (b2 : Below (wr.alloc (.cells #[x, y, z, u] t)).drew.heap.size (wr.alloc (.cells #[x, y, z, u] t)).drew w2) : Below wr.heap.size wr w2 ∧ Bx4 w2 wr.heap.size t x y z u :=
  have B1 := ((Below.refl wr.heap.size wr).alloc (Nat.le_refl _) (.cells #[x, y, z, u] t)).drew
  have X := (Bx4.new wr t x y z u).drew
  ⟨B1.trans (b2.mono B1.size), X.below b2 X.lt⟩

theorem Bx4.quad {W : World} {B R : Nat} {t : TypeId} {a b c d : Value} (h : Bx4 W B t a b c d) (hne : B ≠ R) (x y z u : Value) : Bx4 (quad W R x y z u) B t a b c d := by
  unfold Bx4 Go.Proofs.Ytfgbpjajkmfkoaa.quad
  rw [Below.heap_setCell _ _ _ _ (by simpa using hne), Below.heap_setCell _ _ _ _ (by simpa using hne), Below.heap_setCell _ _ _ _ (by simpa using hne), Below.heap_setCell _ _ _ _ (by simpa using hne)]
  exact h
/-- What lies behind a look-up: the merge that was found, the result, the best one. -/
structure Lk (w W : World) (nb : Nat) (t : TypeId) (x0 x1 x2 x3 m0 m1 m2 m3 : Int) : Prop where
  X : Bx4 W nb t (.int .i64 x0) (.int .i64 x1) (.int .i64 x2) (.int .i64 x3)
  R : Bx4 W w.heap.size t (.int .i64 0) (.int .i64 0) (.int .i64 0) (.int .i64 0)
  M : Bx4 W (w.heap.size + 1) t (.int .i64 m0) (.int .i64 m1) (.int .i64 m2) (.int .i64 m3)
  B : Below w.heap.size w W
  ne : w.heap.size + 1 < nb
theorem lk_new {w wr w2 : World} {t : TypeId} {m0 m1 m2 m3 : Int} (hR : Bx4 wr w.heap.size t (.int .i64 0) (.int .i64 0) (.int .i64 0) (.int .i64 0)) (hM : Bx4 wr (w.heap.size + 1) t (.int .i64 m0) (.int .i64 m1) (.int .i64 m2) (.int .i64 m3)) (hB : Below w.heap.size w wr) (b : Below wr.heap.size wr w2) (x0 x1 x2 x3 : Int) :
    Lk w (w2.alloc (.cells #[.int .i64 x0, .int .i64 x1, .int .i64 x2, .int .i64 x3] t)) w2.heap.size t x0 x1 x2 x3 m0 m1 m2 m3 :=
  ⟨Bx4.new _ _ _ _ _ _, (hR.below b hR.lt).alloc _, (hM.below b hM.lt).alloc _, (hB.trans (b.mono hB.size)).alloc (Nat.le_trans hB.size b.size) _, Nat.lt_of_lt_of_le hM.lt b.size⟩
theorem lk_old {w wr w2 : World} {t : TypeId} {m0 m1 m2 m3 : Int} (hR : Bx4 wr w.heap.size t (.int .i64 0) (.int .i64 0) (.int .i64 0) (.int .i64 0)) (hM : Bx4 wr (w.heap.size + 1) t (.int .i64 m0) (.int .i64 m1) (.int .i64 m2) (.int .i64 m3)) (hB : Below w.heap.size w wr) (b : Below wr.heap.size wr w2) (x0 x1 x2 x3 : Int)
    (Y : Bx4 (quad w2 wr.heap.size (.int .i64 x0) (.int .i64 x1) (.int .i64 x2) (.int .i64 x3)) wr.heap.size t (.int .i64 x0) (.int .i64 x1) (.int .i64 x2) (.int .i64 x3)) :
    Lk w (quad w2 wr.heap.size (.int .i64 x0) (.int .i64 x1) (.int .i64 x2) (.int .i64 x3)) wr.heap.size t x0 x1 x2 x3 m0 m1 m2 m3 :=
  ⟨Y, (hR.below b hR.lt).quad (by have := hM.lt; omega) _ _ _ _, (hM.below b hM.lt).quad (by have := hM.lt; omega) _ _ _ _, below_quad (hB.trans (b.mono hB.size)) hB.size _ _ _ _, hM.lt⟩

set_option maxRecDepth 100000 in
set_option maxHeartbeats 6400000 in
theorem best_calls {w : World} {B : Nat} {ms : List Mg4} {a : Option Addr} {n c : Nat} {xs : Pr.Row} (T : TbIn w B ms) (R : Ir w a n c xs) (F : Fits xs) (hn : n ≤ 1000000) :
    Calls Try.prog 15 #[.pointer (some ⟨B, 0, none⟩), .slice a n c] w fun e w' => e = .returned (.tuple #[.int .i64 (Pr.plc (Pr.best ms xs)), vm (Pr.mrg ms (Pr.best ms xs)), .bool (Pr.has (Pr.best ms xs))]) ∧ Below w.heap.size w w' := by
  have hl := R.len
  have TW := hid T
  have RW := hid R
  have FW := hid F
  clear T R F
  have R0 := hid ((Bx4.new w 34 (.int .i64 0) (.int .i64 0) (.int .i64 0) (.int .i64 0)).alloc (.cells #[.int .i64 0, .int .i64 0, .int .i64 0, .int .i64 0] 34))
  have X0 := hid (Bx4.new (w.alloc (.cells #[.int .i64 0, .int .i64 0, .int .i64 0, .int .i64 0] 34)) 34 (.int .i64 0) (.int .i64 0) (.int .i64 0) (.int .i64 0))
  have hs : (w.alloc (.cells #[.int .i64 0, .int .i64 0, .int .i64 0, .int .i64 0] 34)).heap.size = w.heap.size + 1 := by simp
  rw [hs] at X0
  clear hs
  have B0 := hid (((Below.refl w.heap.size w).alloc (Nat.le_refl _) (.cells #[.int .i64 0, .int .i64 0, .int .i64 0, .int .i64 0] 34)).alloc (by simp) (.cells #[.int .i64 0, .int .i64 0, .int .i64 0, .int .i64 0] 34))
  go_enter Try.func15, Try.ntmps15
  go_wp2_with fail
  go_loopg [7, 9, 10] n (fun r pv fv iv wr => ∃ (j : Nat) (pz : Int) (mm : Mg4) (fd : Bool), r = n - j ∧ iv = .int .i64 ((j : Int) + 1) ∧ pv = .int .i64 pz ∧ fv = .bool fd ∧ ((n = 0 ∧ j = 0) ∨ j + 1 ≤ n) ∧ Hid (pz = Pr.plc (Pr.bst ms xs j) ∧ mm = Pr.mrg ms (Pr.bst ms xs j) ∧ fd = Pr.has (Pr.bst ms xs j)) ∧ Hid (Bx4 wr w.heap.size 34 (.int .i64 0) (.int .i64 0) (.int .i64 0) (.int .i64 0)) ∧ Hid (Bx4 wr (w.heap.size + 1) 34 (.int .i64 mm.1) (.int .i64 mm.2.1) (.int .i64 mm.2.2.1) (.int .i64 mm.2.2.2)) ∧ Hid (Below w.heap.size w wr))
  case atStart => exact ⟨0, 0, (0, 0, 0, 0), false, rfl, rfl, rfl, rfl, by omega, hid ⟨rfl, rfl, rfl⟩, R0, X0, B0⟩
  case round =>
    obtain ⟨j, pz, ⟨m0, m1, m2, m3⟩, fd, rfl, rfl, rfl, rfl, hj, HV, HR, HX, HB⟩ := hrel
    simp only at HX
    by_cases hlt : j + 1 < n
    · have k1 : (j : Int) + 1 < n := by omega
      have k0 : (0 : Int) ≤ j := by omega
      have k2 : (0 : Int) ≤ (j : Int) + 1 := by omega
      have k3 : (j : Int) < n := by omega
      have e1 : IntKind.i64.wrap ((j : Int) + 1 - 1) = j := by rw [i64_in (by omega) (by omega)]; omega
      have e3 : IntKind.i64.wrap (j : Int) = j := i64_in (by omega) (by omega)
      have e2 : IntKind.i64.wrap ((j : Int) + 1 + 1) = j + 1 + 1 := i64_in (by omega) (by omega)
      have hB1 := HB.out.size
      have T1 := hid (TW.out.below HB.out)
      obtain ⟨b, off, rfl, hbl, hc⟩ := (RW.out.below HB.out).at' (by omega)
      have p0 := hc j (by omega)
      have p1 := hc (j + 1) hlt
      have W0 := FW.out _ (Pr.it_mem (xs := xs) (i := j) (by omega))
      have W1 := FW.out _ (Pr.it_mem (xs := xs) (i := j + 1) (by omega))
      have WY := hid (Pr.bst_ways ms xs j)
      obtain ⟨l, hx⟩ : ∃ x, it xs j = x := ⟨_, rfl⟩
      obtain ⟨r, hy⟩ : ∃ x, it xs (j + 1) = x := ⟨_, rfl⟩
      rw [hx] at p0 W0 WY
      rw [hy] at p1 W1 WY
      obtain ⟨⟨x0, x1, x2, x3⟩, hfm⟩ : ∃ x, Pr.fm ms l r = x := ⟨_, rfl⟩
      obtain ⟨t, hfb⟩ : ∃ x, Pr.fb ms l r = x := ⟨_, rfl⟩
      have FC := hid (fun W (hW : Below wr.heap.size wr W) => find_is (T1.out.below hW) l r W0 W1 hfm hfb)
      rw [hfm, hfb] at WY
      clear hc hx hy W0 W1 hfm hfb
      go_wp2_with fail
      have HNe := hid (show b ≠ wr.heap.size by omega)
      go_region_held3 (fun w' => w'.cell? ⟨b, off + j, none⟩ = some (.int .i64 l) ∧ w'.cell? ⟨b, off + (j + 1), none⟩ = some (.int .i64 r)) (first | with_reducible exact N2.out | with_reducible exact ⟨cell_alloc N2.out.1 _, cell_alloc N2.out.2 _⟩ | with_reducible exact ⟨(quad_cell HNe.out _ _ _ _).trans N2.out.1, (quad_cell HNe.out _ _ _ _).trans N2.out.2⟩ | go_keep) (first | (go_at_call 12; refine (FC.out _ (Below.refl _ _).drew).mono ?_; rintro e w2 ⟨rfl, b2⟩; have B2 := hid (show Below wr.heap.size wr w2 from (Below.refl _ wr).drew.trans b2); have N2 := hid (show w2.cell? ⟨b, off + j, none⟩ = some (.int .i64 l) ∧ w2.cell? ⟨b, off + (j + 1), none⟩ = some (.int .i64 r) from ⟨(B2.out.cell (p := ⟨b, off + j, none⟩) hbl).trans p0, (B2.out.cell (p := ⟨b, off + (j + 1), none⟩) hbl).trans p1⟩); clear b2) | (go_at_call 12; refine (FC.out _ ((Below.refl _ _).alloc (Nat.le_refl _) _).drew).mono ?_; rintro e w2 ⟨rfl, b2⟩; obtain ⟨b3, y0⟩ := fresh4 b2; have B2 := hid b3; have N2 := hid (show w2.cell? ⟨b, off + j, none⟩ = some (.int .i64 l) ∧ w2.cell? ⟨b, off + (j + 1), none⟩ = some (.int .i64 r) from ⟨(B2.out.cell (p := ⟨b, off + j, none⟩) hbl).trans p0, (B2.out.cell (p := ⟨b, off + (j + 1), none⟩) hbl).trans p1⟩); have Y2 := hid y0; obtain ⟨y1, y2, y3, y4⟩ := ret_quad Y2.out (.int .i64 x0) (.int .i64 x1) (.int .i64 x2) (.int .i64 x3); have a0 := Y2.out.cell0; have b0 := Y2.out.fr 0; have a1 := y1.cell1; have b1 := y1.fr 1; have a2 := y2.cell2; have b2' := y2.fr 2; have a3 := y3.cell3; have b3' := y3.fr 3; have Y4 := hid y4; clear y0 y1 y2 y3 y4 b3 b2))
      all_goals
        first
          | (have L4 := hid (lk_new HR.out HX.out HB.out B2.out x0 x1 x2 x3)
             obtain ⟨w4, hw4⟩ : ∃ W, w2.alloc (.cells #[.int .i64 x0, .int .i64 x1, .int .i64 x2, .int .i64 x3] 34) = W := ⟨_, rfl⟩
             obtain ⟨nb, hnb⟩ : ∃ nb, w2.heap.size = nb := ⟨_, rfl⟩
             rw [hw4, hnb] at L4
             rw [hw4, hnb])
          | (have L4 := hid (lk_old HR.out HX.out HB.out B2.out x0 x1 x2 x3 Y4.out)
             unfold quad at L4
             obtain ⟨nb, hnb⟩ : ∃ nb, wr.heap.size = nb := ⟨_, rfl⟩
             rw [hnb] at L4
             rw [hnb]
             obtain ⟨w4, hw4⟩ : ∃ W, (((w2.setCell ⟨nb, 0, none⟩ (.int .i64 x0)).setCell ⟨nb, 1, none⟩ (.int .i64 x1)).setCell ⟨nb, 2, none⟩ (.int .i64 x2)).setCell ⟨nb, 3, none⟩ (.int .i64 x3) = W := ⟨_, rfl⟩
             rw [hw4] at L4
             rw [hw4]
             clear a0 b0 a1 b1 a2 b2' a3 b3' Y4)
        clear hw4 hnb HR HX HB B2 N2 HNe FC p0 p1 hB1 T1
        have hne := L4.out.ne
        have c3 := L4.out.X.cell3
        have d3 := L4.out.M.cell3
        rcases WY.out with ⟨hb, hs⟩ | ⟨hb, hh, h1, h2, h3⟩ | ⟨hb, hh, hlt', h1, h2, h3⟩ | ⟨hb, hh, hlt', hs⟩
        · subst hb
          have HVn := hid (show pz = Pr.plc (Pr.bst ms xs (j + 1)) ∧ (m0, m1, m2, m3) = Pr.mrg ms (Pr.bst ms xs (j + 1)) ∧ fd = Pr.has (Pr.bst ms xs (j + 1)) from by rw [hs]; exact HV.out)
          clear hs
          go_wp2_with fail
          go_roundg (n - (j + 1))
          case measure => omega
          case rel => exact ⟨j + 1, pz, (m0, m1, m2, m3), fd, rfl, by go_num, rfl, rfl, by omega, HVn, hid L4.out.R, hid L4.out.M, hid L4.out.B⟩
        · subst hb
          have hfd : fd = false := HV.out.2.2.trans hh
          subst hfd
          have HVn := hid (show (j : Int) = Pr.plc (Pr.bst ms xs (j + 1)) ∧ (x0, x1, x2, x3) = Pr.mrg ms (Pr.bst ms xs (j + 1)) ∧ true = Pr.has (Pr.bst ms xs (j + 1)) from ⟨h1.symm, h2.symm, h3.symm⟩)
          clear hh h1 h2 h3
          have f0 := L4.out.M.cell0
          have g0 := L4.out.M.fr 0
          have e0 := L4.out.X.cell0
          have e1' := L4.out.X.cell1
          have e2' := L4.out.X.cell2
          obtain ⟨y1, y2, y3, y4⟩ := ret_quad L4.out.M (.int .i64 x0) (.int .i64 x1) (.int .i64 x2) (.int .i64 x3)
          have f1 := y1.cell1
          have g1 := y1.fr 1
          have f2 := y2.cell2
          have g2 := y2.fr 2
          have f3 := y3.cell3
          have g3 := y3.fr 3
          have M5 := hid y4
          have R5 := hid (L4.out.R.quad (R := w.heap.size + 1) (by omega) (.int .i64 x0) (.int .i64 x1) (.int .i64 x2) (.int .i64 x3))
          have B5 := hid (below_quad L4.out.B (R := w.heap.size + 1) (by omega) (.int .i64 x0) (.int .i64 x1) (.int .i64 x2) (.int .i64 x3))
          have HNe := hid (show nb ≠ w.heap.size + 1 by omega)
          clear y1 y2 y3 y4
          go_wp2_with fail
          go_region_held3 (fun w' => w'.cell? ⟨nb, 0, none⟩ = some (.int .i64 x0) ∧ w'.cell? ⟨nb, 1, none⟩ = some (.int .i64 x1) ∧ w'.cell? ⟨nb, 2, none⟩ = some (.int .i64 x2) ∧ w'.cell? ⟨nb, 3, none⟩ = some (.int .i64 x3)) (first | with_reducible exact ⟨e0, e1', e2', c3⟩ | with_reducible exact ⟨(quad_cell HNe.out _ _ _ _).trans e0, (quad_cell HNe.out _ _ _ _).trans e1', (quad_cell HNe.out _ _ _ _).trans e2', (quad_cell HNe.out _ _ _ _).trans c3⟩ | with_reducible exact ⟨(quad_drew HNe.out _ _ _ _).trans e0, (quad_drew HNe.out _ _ _ _).trans e1', (quad_drew HNe.out _ _ _ _).trans e2', (quad_drew HNe.out _ _ _ _).trans c3⟩ | go_keep) (fail)
          go_wp2_with fail
          go_roundg (n - (j + 1))
          case measure => omega
          case rel => exact ⟨j + 1, j, (x0, x1, x2, x3), true, rfl, by go_num, rfl, rfl, by omega, HVn, hid R5.out.drew, hid M5.out.drew, hid B5.out.drew⟩
        · subst hb
          have hfd : fd = true := HV.out.2.2.trans hh
          subst hfd
          have HVn := hid (show (j : Int) = Pr.plc (Pr.bst ms xs (j + 1)) ∧ (x0, x1, x2, x3) = Pr.mrg ms (Pr.bst ms xs (j + 1)) ∧ true = Pr.has (Pr.bst ms xs (j + 1)) from ⟨h1.symm, h2.symm, h3.symm⟩)
          rw [← HV.out.2.1] at hlt'
          have hlt2 : x3 < m3 := hlt'
          clear hh h1 h2 h3 hlt'
          have f0 := L4.out.M.cell0
          have g0 := L4.out.M.fr 0
          have e0 := L4.out.X.cell0
          have e1' := L4.out.X.cell1
          have e2' := L4.out.X.cell2
          obtain ⟨y1, y2, y3, y4⟩ := ret_quad L4.out.M (.int .i64 x0) (.int .i64 x1) (.int .i64 x2) (.int .i64 x3)
          have f1 := y1.cell1
          have g1 := y1.fr 1
          have f2 := y2.cell2
          have g2 := y2.fr 2
          have f3 := y3.cell3
          have g3 := y3.fr 3
          have M5 := hid y4
          have R5 := hid (L4.out.R.quad (R := w.heap.size + 1) (by omega) (.int .i64 x0) (.int .i64 x1) (.int .i64 x2) (.int .i64 x3))
          have B5 := hid (below_quad L4.out.B (R := w.heap.size + 1) (by omega) (.int .i64 x0) (.int .i64 x1) (.int .i64 x2) (.int .i64 x3))
          have HNe := hid (show nb ≠ w.heap.size + 1 by omega)
          clear y1 y2 y3 y4
          go_wp2_with fail
          go_region_held3 (fun w' => w'.cell? ⟨nb, 0, none⟩ = some (.int .i64 x0) ∧ w'.cell? ⟨nb, 1, none⟩ = some (.int .i64 x1) ∧ w'.cell? ⟨nb, 2, none⟩ = some (.int .i64 x2) ∧ w'.cell? ⟨nb, 3, none⟩ = some (.int .i64 x3)) (first | with_reducible exact ⟨e0, e1', e2', c3⟩ | with_reducible exact ⟨(quad_cell HNe.out _ _ _ _).trans e0, (quad_cell HNe.out _ _ _ _).trans e1', (quad_cell HNe.out _ _ _ _).trans e2', (quad_cell HNe.out _ _ _ _).trans c3⟩ | with_reducible exact ⟨(quad_drew HNe.out _ _ _ _).trans e0, (quad_drew HNe.out _ _ _ _).trans e1', (quad_drew HNe.out _ _ _ _).trans e2', (quad_drew HNe.out _ _ _ _).trans c3⟩ | go_keep) (fail)
          go_wp2_with fail
          go_roundg (n - (j + 1))
          case measure => omega
          case rel => exact ⟨j + 1, j, (x0, x1, x2, x3), true, rfl, by go_num, rfl, rfl, by omega, HVn, hid R5.out.drew, hid M5.out.drew, hid B5.out.drew⟩
        · subst hb
          have hfd : fd = true := HV.out.2.2.trans hh
          subst hfd
          have HVn := hid (show pz = Pr.plc (Pr.bst ms xs (j + 1)) ∧ (m0, m1, m2, m3) = Pr.mrg ms (Pr.bst ms xs (j + 1)) ∧ true = Pr.has (Pr.bst ms xs (j + 1)) from by rw [hs]; exact HV.out)
          rw [← HV.out.2.1] at hlt'
          have hlt2 : decide (x3 < m3) = false := by first | exact decide_eq_false hlt' | exact decide_eq_false (Int.not_lt.2 hlt')
          clear hh hs hlt'
          go_wp2_with fail
          go_roundg (n - (j + 1))
          case measure => omega
          case rel => exact ⟨j + 1, pz, (m0, m1, m2, m3), true, rfl, by go_num, rfl, rfl, by omega, HVn, hid L4.out.R, hid L4.out.M, hid L4.out.B⟩
    · have k1 : ¬ (j : Int) + 1 < n := by omega
      have HE := hid (show Pr.bst ms xs j = Pr.best ms xs by unfold Pr.best; congr 1; omega)
      have HV2 := hid HV.out
      rw [HE.out] at HV2
      have z0 := HX.out.cell0
      have z1 := HX.out.cell1
      have z2 := HX.out.cell2
      have z3 := HX.out.cell3
      have X9 := hid HX.out
      have B9 := hid HB.out
      obtain ⟨y1, y2, y3, y4⟩ := ret_quad HR.out (.int .i64 m0) (.int .i64 m1) (.int .i64 m2) (.int .i64 m3)
      have BB := hid (below_quad HB.out (R := w.heap.size) (Nat.le_refl _) (.int .i64 m0) (.int .i64 m1) (.int .i64 m2) (.int .i64 m3)).drew
      have p0 := HR.out.cell0
      have q0 := HR.out.fr 0
      have u1 := y1.cell1
      have v1 := y1.fr 1
      have u2 := y2.cell2
      have v2 := y2.fr 2
      have u3 := y3.cell3
      have v3 := y3.fr 3
      have r0 := y4.drew.cell0
      have r1 := y4.drew.cell1
      have r2 := y4.drew.cell2
      have r3 := y4.drew.cell3
      unfold quad at r0 r1 r2 r3
      clear y1 y2 y3 y4 HX HB HR HV
      go_wp2_with fail
      go_region_held3 (fun w' => w'.cell? ⟨w.heap.size + 1, 0, none⟩ = some (.int .i64 m0) ∧ w'.cell? ⟨w.heap.size + 1, 1, none⟩ = some (.int .i64 m1) ∧ w'.cell? ⟨w.heap.size + 1, 2, none⟩ = some (.int .i64 m2) ∧ w'.cell? ⟨w.heap.size + 1, 3, none⟩ = some (.int .i64 m3)) (first | with_reducible exact ⟨z0, z1, z2, z3⟩ | with_reducible exact ⟨(quad_cell (Nat.succ_ne_self _) _ _ _ _).trans z0, (quad_cell (Nat.succ_ne_self _) _ _ _ _).trans z1, (quad_cell (Nat.succ_ne_self _) _ _ _ _).trans z2, (quad_cell (Nat.succ_ne_self _) _ _ _ _).trans z3⟩ | with_reducible exact ⟨(quad_drew (Nat.succ_ne_self _) _ _ _ _).trans z0, (quad_drew (Nat.succ_ne_self _) _ _ _ _).trans z1, (quad_drew (Nat.succ_ne_self _) _ _ _ _).trans z2, (quad_drew (Nat.succ_ne_self _) _ _ _ _).trans z3⟩ | go_keep) (fail)
      go_wp2_with fail
      refine bodyPost_ret (v := .tuple #[.int .i64 pz, .agg #[.int .i64 m0, .int .i64 m1, .int .i64 m2, .int .i64 m3], .bool fd]) (by simp [results, Try.results15, go_sem, r0, r1, r2, r3]) rfl ?_
      refine ⟨?_, BB.out⟩
      rw [← HV2.out.1, ← HV2.out.2.1, ← HV2.out.2.2]
      rfl
end Go.Proofs.Ytfgbpjajkmfkoaa
