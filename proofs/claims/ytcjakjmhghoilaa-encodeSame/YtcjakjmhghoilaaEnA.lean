/-
  Walk of what is being merged: await.
-/
import Derived.Test.YtcjakjmhghoilaaEnM
import Derived.BigRegion
import Derived.Deep.RegionLaw
import Derived.Deep.RegionHeld3
namespace Go.Proofs.Ytcjakjmhghoilaa
open Go.RowKit Go.Maps
set_option linter.unusedVariables false
open Pr (it)
open Hp (Ent lt wo Dis)
/-- What Find answers, said of the value. -/
def FdV (x0 x1 x2 x3 : Int) (t : Bool) (W : World) (u : Value) (w' : World) : Prop := u = .tuple #[.agg #[.int .i64 x0, .int .i64 x1, .int .i64 x2, .int .i64 x3], .bool t] ∧ Below W.heap.size W w'
theorem fd_v {x0 x1 x2 x3 : Int} {t : Bool} {W : World} {fn : Nat} {args : Array Value} (h : Calls Try.prog fn args W fun e w' => e = .returned (.tuple #[.agg #[.int .i64 x0, .int .i64 x1, .int .i64 x2, .int .i64 x3], .bool t]) ∧ Below W.heap.size W w') : Calls Try.prog fn args W fun e w' => ∃ u, e = .returned u ∧ FdV x0 x1 x2 x3 t W u w' :=
  h.mono fun e w' ⟨he, hb⟩ => ⟨_, he, rfl, hb⟩
/-- What Put answers, said of the value. -/
def PtV (w0 : World) (O M : Nat) (v : Value) (l : List Ent) (X : Nat → Prop) (W : World) (u : Value) (w' : World) : Prop := u = .tuple #[] ∧ SOut w0 O M v l X W w'
theorem pt_v {w0 : World} {O M : Nat} {v : Value} {l : List Ent} {X : Nat → Prop} {W : World} {fn : Nat} {args : Array Value} (h : Calls Try.prog fn args W fun e w' => e = .returned (.tuple #[]) ∧ SOut w0 O M v l X W w') : Calls Try.prog fn args W fun e w' => ∃ u, e = .returned u ∧ PtV w0 O M v l X W u w' :=
  h.mono fun e w' ⟨he, hb⟩ => ⟨_, he, rfl, hb⟩
/-- A merge laid behind the look-up, or ahead of it. -/
theorem mb_new {W w2 : World} {t : TypeId} (b : Below W.heap.size W w2) (x0 x1 x2 x3 : Int) :
    Below W.heap.size W (w2.alloc (.cells #[.int .i64 x0, .int .i64 x1, .int .i64 x2, .int .i64 x3] t)) ∧ Bx4 (w2.alloc (.cells #[.int .i64 x0, .int .i64 x1, .int .i64 x2, .int .i64 x3] t)) w2.heap.size t (.int .i64 x0) (.int .i64 x1) (.int .i64 x2) (.int .i64 x3) :=
  ⟨b.alloc b.size _, Bx4.new _ _ _ _ _ _⟩
/-- Five cells that a world grown from W holds, too. -/
theorem held5 {W w2 : World} {a1 a2 a3 a4 a5 : Addr} {v1 v2 v3 v4 v5 : Value} (hb : Below W.heap.size W w2) (h : W.cell? a1 = some v1 ∧ W.cell? a2 = some v2 ∧ W.cell? a3 = some v3 ∧ W.cell? a4 = some v4 ∧ W.cell? a5 = some v5) :
    w2.cell? a1 = some v1 ∧ w2.cell? a2 = some v2 ∧ w2.cell? a3 = some v3 ∧ w2.cell? a4 = some v4 ∧ w2.cell? a5 = some v5 := by
  obtain ⟨h1, h2, h3, h4, h5⟩ := h
  exact ⟨(hb.cell (World.block_lt_of_cell? _ _ h1)).trans h1, (hb.cell (World.block_lt_of_cell? _ _ h2)).trans h2, (hb.cell (World.block_lt_of_cell? _ _ h3)).trans h3, (hb.cell (World.block_lt_of_cell? _ _ h4)).trans h4, (hb.cell (World.block_lt_of_cell? _ _ h5)).trans h5⟩
section
variable {w0 w : World} {R K O M D N : Nat} {v : Value} {l : List Ent} {ms : List Mg4} {ids ls nx : Nat → Int}
set_option maxRecDepth 100000 in
set_option maxHeartbeats 6400000 in
theorem eawait_calls (h : Rm w0 w R K O M D N v l ms ids ls nx) {p : Nat} (hp : p < N) (hx : nx p = N ∨ ∃ z : Nat, nx p = z ∧ z < N) :
    Calls Try.prog 46 #[.pointer (some ⟨R, 0, none⟩), .int .i64 (p : Int)] w fun e w' => e = .returned (.tuple #[]) ∧ RmOut w0 w' R K O M D N (Pr.awf ms ids nx N p l) ms ids ls nx := by
  have k0 : (0 : Int) ≤ p := by omega
  have k1 : (p : Int) < N := by omega
  have hN9 := h.N9
  have c0 := h.blk.cell0
  obtain ⟨p0, p1, p2⟩ := h.row.at' hp
  have wp := h.wf p hp
  rcases hx with hx | ⟨z, hx, hz⟩
  · have HAw := hid (show Pr.awf ms ids nx N p l = l from by unfold Pr.awf; rw [if_pos hx])
    obtain ⟨y0, hy0⟩ : ∃ y, ids p = y := ⟨_, rfl⟩
    obtain ⟨y1, hy1⟩ : ∃ y, ls p = y := ⟨_, rfl⟩
    rw [hy0] at p0
    rw [hy1] at p1
    rw [hx] at p2
    have H1 := hid (h.alloc (.cells #[.int .i64 y0, .int .i64 y1, .int .i64 (N : Int)] 92))
    have X1 := Bx3.new w 92 (.int .i64 y0) (.int .i64 y1) (.int .i64 (N : Int))
    have d0 := H1.out.blk.cell0
    have e2 := X1.cell2
    clear h hy0 hy1 hx wp X1
    go_enter Try.func46, Try.ntmps46
    go_wp2_with fail
    go_region
    go_wp2_with fail
    refine bodyPost_ret (v := .tuple #[]) (by simp [results, Try.results46, go_sem]) rfl ?_
    exact ⟨rfl, v, by rw [HAw.out]; exact H1.out.drew⟩
  · have e1 : ((z : Int) == (N : Int)) = false := by simp; omega
    have z0 : (0 : Int) ≤ z := by omega
    have z1 : (z : Int) < N := by omega
    obtain ⟨q0, _, _⟩ := h.row.at' hz
    have wz := h.wf z hz
    have hAw : Pr.awf ms ids nx N p l = if Pr.fb ms (ids p) (ids z) = true then wo l (p : Int) ++ [((p : Int), (Pr.fm ms (ids p) (ids z)).2.2.2, (Pr.fm ms (ids p) (ids z)).2.2.1)] else wo l (p : Int) := by
      unfold Pr.awf
      rw [if_neg (by omega), hx, Int.toNat_natCast]
    obtain ⟨y0, hy0⟩ : ∃ y, ids p = y := ⟨_, rfl⟩
    obtain ⟨y1, hy1⟩ : ∃ y, ls p = y := ⟨_, rfl⟩
    obtain ⟨y3, hy3⟩ : ∃ y, ids z = y := ⟨_, rfl⟩
    rw [hy0] at p0 wp hAw
    rw [hy1] at p1
    rw [hy3] at q0 wz hAw
    rw [hx] at p2
    obtain ⟨⟨x0, x1, x2, x3⟩, hfm⟩ : ∃ x, Pr.fm ms y0 y3 = x := ⟨_, rfl⟩
    obtain ⟨t, hfb⟩ : ∃ x, Pr.fb ms y0 y3 = x := ⟨_, rfl⟩
    rw [hfm, hfb] at hAw
    have HAw := hid hAw
    have H1 := hid (h.alloc (.cells #[.int .i64 y0, .int .i64 y1, .int .i64 (z : Int)] 92))
    have X1 := hid (Bx3.new w 92 (.int .i64 y0) (.int .i64 y1) (.int .i64 (z : Int)))
    have Q1 := hid (((Below.refl w.heap.size w).alloc (Nat.le_refl _) (.cells #[.int .i64 y0, .int .i64 y1, .int .i64 (z : Int)] 92)).cell (p := ⟨K, z * 3, none⟩) h.row.lt |>.trans q0)
    have d0 := H1.out.blk.cell0
    have e2 := X1.out.cell2
    clear h hy0 hy1 hy3 hx hAw q0
    go_enter Try.func46, Try.ntmps46
    go_wp2_with fail
    go_region
    obtain ⟨W, hW⟩ : ∃ W, (w.alloc (.cells #[.int .i64 y0, .int .i64 y1, .int .i64 (z : Int)] 92)).drew = W := ⟨_, rfl⟩
    have H2 := hid (show Rm w0 W R K O M D N v l ms ids ls nx from by rw [← hW]; exact H1.out.drew)
    have X2 := hid (show Bx3 W w.heap.size 92 (.int .i64 y0) (.int .i64 y1) (.int .i64 (z : Int)) from by rw [← hW]; exact X1.out.drew)
    have q2 : W.cell? ⟨K, z * 3, none⟩ = some (.int .i64 y3) := by rw [← hW]; exact Q1.out
    show Exit.then _ _ Exit.normal _ (w.alloc (.cells #[.int .i64 y0, .int .i64 y1, .int .i64 (z : Int)] 92)).drew
    rw [hW]
    obtain ⟨B1, hB1⟩ : ∃ b, w.heap.size = b := ⟨_, rfl⟩
    rw [hB1] at X2 ⊢
    clear hW d0 e2 H1 X1 Q1 c0 p0 p1 p2 hB1
    have FC := hid (fun W' (hb : Below W.heap.size W W') => find_is (H2.out.find.below hb) y0 y3 wp wz hfm hfb)
    have c0 := H2.out.blk.cell0
    have c1 := H2.out.f1
    have f0 := X2.out.cell0
    have f2 := X2.out.cell2
    clear wp wz hfm hfb
    go_wp2_with fail
    have N1 := hid (show W.cell? ⟨R, 0, none⟩ = some (.slice (some ⟨K, 0, none⟩) N N) ∧ W.cell? ⟨R, 1, none⟩ = some (.func (.func 25) #[.pointer (some ⟨D, 0, none⟩)] #[]) ∧ W.cell? ⟨B1, 0, none⟩ = some (.int .i64 y0) ∧ W.cell? ⟨B1, 2, none⟩ = some (.int .i64 (z : Int)) ∧ W.cell? ⟨K, z * 3, none⟩ = some (.int .i64 y3) from ⟨c0, c1, f0, f2, q2⟩)
    have HR := hid (show R ≠ W.heap.size from fun e => by have := H2.out.blk.lt; omega)
    have HK := hid (show K ≠ W.heap.size from fun e => by have := H2.out.row.lt; omega)
    have HB1 := hid (show B1 ≠ W.heap.size from fun e => by have := X2.out.lt; omega)
    go_region_held3 (fun w' => w'.cell? ⟨R, 0, none⟩ = some (.slice (some ⟨K, 0, none⟩) N N) ∧ w'.cell? ⟨R, 1, none⟩ = some (.func (.func 25) #[.pointer (some ⟨D, 0, none⟩)] #[]) ∧ w'.cell? ⟨B1, 0, none⟩ = some (.int .i64 y0) ∧ w'.cell? ⟨B1, 2, none⟩ = some (.int .i64 (z : Int)) ∧ w'.cell? ⟨K, z * 3, none⟩ = some (.int .i64 y3)) (first | with_reducible exact N2.out | with_reducible exact ⟨cell_alloc N2.out.1 _, cell_alloc N2.out.2.1 _, cell_alloc N2.out.2.2.1 _, cell_alloc N2.out.2.2.2.1 _, cell_alloc N2.out.2.2.2.2 _⟩ | with_reducible exact ⟨(quad_cell HR.out _ _ _ _).trans N2.out.1, (quad_cell HR.out _ _ _ _).trans N2.out.2.1, (quad_cell HB1.out _ _ _ _).trans N2.out.2.2.1, (quad_cell HB1.out _ _ _ _).trans N2.out.2.2.2.1, (quad_cell HK.out _ _ _ _).trans N2.out.2.2.2.2⟩ | go_keep) (first | (go_at_call 25; refine (FC.out _ (Below.refl _ _).drew).mono ?_; rintro e w2 ⟨rfl, b2⟩; have B2 := hid (show Below W.heap.size W w2 from (Below.refl _ W).drew.trans b2); have N2 := hid (held5 B2.out N1.out); clear b2) | (go_at_call 25; refine (FC.out _ ((Below.refl _ _).alloc (Nat.le_refl _) _).drew).mono ?_; rintro e w2 ⟨rfl, b2⟩; obtain ⟨b3, g0⟩ := fresh4 b2; have B2 := hid b3; have N2 := hid (held5 B2.out N1.out); have Y2 := hid g0; obtain ⟨g1, g2, g3, g4⟩ := ret_quad Y2.out (.int .i64 x0) (.int .i64 x1) (.int .i64 x2) (.int .i64 x3); have a0 := Y2.out.cell0; have b0 := Y2.out.fr 0; have a1 := g1.cell1; have b1 := g1.fr 1; have a2 := g2.cell2; have b2' := g2.fr 2; have a3 := g3.cell3; have b3' := g3.fr 3; have Y4 := hid g4; clear g0 g1 g2 g3 g4 b3 b2))
    all_goals
      first
        | (have L4 := hid (mb_new (t := 50) B2.out x0 x1 x2 x3)
           obtain ⟨w4, hw4⟩ : ∃ W', w2.alloc (.cells #[.int .i64 x0, .int .i64 x1, .int .i64 x2, .int .i64 x3] 50) = W' := ⟨_, rfl⟩
           obtain ⟨nb, hnb⟩ : ∃ nb, w2.heap.size = nb := ⟨_, rfl⟩
           rw [hw4, hnb] at L4
           rw [hw4, hnb])
        | (have L4 := hid (show Below W.heap.size W (quad w2 W.heap.size (.int .i64 x0) (.int .i64 x1) (.int .i64 x2) (.int .i64 x3)) ∧ Bx4 (quad w2 W.heap.size (.int .i64 x0) (.int .i64 x1) (.int .i64 x2) (.int .i64 x3)) W.heap.size 50 (.int .i64 x0) (.int .i64 x1) (.int .i64 x2) (.int .i64 x3) from ⟨below_quad B2.out (Nat.le_refl _) _ _ _ _, Y4.out⟩)
           unfold quad at L4
           obtain ⟨nb, hnb⟩ : ∃ nb, W.heap.size = nb := ⟨_, rfl⟩
           rw [hnb]
           obtain ⟨w4, hw4⟩ : ∃ W', (((w2.setCell ⟨nb, 0, none⟩ (.int .i64 x0)).setCell ⟨nb, 1, none⟩ (.int .i64 x1)).setCell ⟨nb, 2, none⟩ (.int .i64 x2)).setCell ⟨nb, 3, none⟩ (.int .i64 x3) = W' := ⟨_, rfl⟩
           have L4 := hid (show Below W.heap.size W w4 ∧ Bx4 w4 nb 50 (.int .i64 x0) (.int .i64 x1) (.int .i64 x2) (.int .i64 x3) from by rw [← hw4, ← hnb]; exact L4.out)
           rw [hw4]
           clear a0 b0 a1 b1 a2 b2' a3 b3' Y4)
      have H4 := hid (H2.out.below L4.out.1)
      clear hw4 hnb B2 N2 N1 HR HK HB1 FC c0 c1 f0 f2 q2 X2 H2
      have d2 := H4.out.blk.cell2
      cases t
      · go_wp2_with fail
        refine (sdrop H4.out.q (p : Int) (key_wf (by omega)) (by have := H4.out.len; omega)).mono ?_
        rintro e w5 ⟨t5, rfl, _, o5⟩
        have O5 := hid (H4.out.step o5 (fun x hx => .inl (Hp.wo_mem.1 hx).1))
        clear o5
        go_wp2_with fail
        refine bodyPost_ret (v := .tuple #[]) (by simp [results, Try.results46, go_sem]) rfl ?_
        exact ⟨rfl, by rw [HAw.out]; exact O5.out⟩
      · have m2 := L4.out.2.cell2
        have m3 := L4.out.2.cell3
        go_wp2_with fail
        go_region_law (refine step_call_any (R := PtV w0 O M v (put l ((p : Int), x3, x2)) (fun k => k = R ∨ k = K) w4.drew) (by rfl) 57 _ _ (by rfl) #[pt O, va ((p : Int), x3, x2)] (by rfl) (by kernel_rfl) (pt_v (sput H4.out.drew.q ((p : Int), x3, x2) (key_wf (by omega)) (by have := H4.out.len; omega))) ?_; rintro u6 w6 ⟨rfl, o6⟩)
        all_goals
          have O6 := hid (H4.out.drew.step o6 (fun x hx => (List.mem_append.1 hx).elim (fun h => .inl (Hp.wo_mem.1 h).1) (fun h => .inr (by rw [List.mem_singleton.1 h]; exact ⟨k0, k1⟩))))
          clear o6
          go_wp2_with fail
          go_end0
          exact ⟨rfl, by rw [HAw.out]; exact O6.out⟩
end
end Go.Proofs.Ytcjakjmhghoilaa
