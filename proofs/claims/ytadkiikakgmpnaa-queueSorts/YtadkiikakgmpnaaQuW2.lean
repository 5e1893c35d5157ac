/-
  Walk of an agenda's row: Swap.
-/
import Derived.Test.YtadkiikakgmpnaaQuW1
import Derived.BigRegion
namespace Go.Proofs.Ytadkiikakgmpnaa
open Go.RowKit Go.Maps Hp
set_option linter.unusedVariables false
/-- What the three stores of an entry want. -/
theorem st3 {w : World} {base : Nat} {ty : TypeId} {g n cap i : Nat} {f : Nat → Ent} (h : w.ownsRow base ty 3 (.slice (some ⟨g, 0, none⟩) n cap) n (ev f n)) (x0 x1 x2 : Int) (hi : i < n) :
    w.frozen? ⟨g, i * 3, none⟩ = false ∧ (∃ u, w.cell? ⟨g, i * 3, none⟩ = some u) ∧
    (w.setCell ⟨g, i * 3, none⟩ (.int .i64 x0)).frozen? ⟨g, i * 3 + 1, none⟩ = false ∧ (∃ u, (w.setCell ⟨g, i * 3, none⟩ (.int .i64 x0)).cell? ⟨g, i * 3 + 1, none⟩ = some u) ∧
    ((w.setCell ⟨g, i * 3, none⟩ (.int .i64 x0)).setCell ⟨g, i * 3 + 1, none⟩ (.int .i64 x1)).frozen? ⟨g, i * 3 + 2, none⟩ = false ∧ (∃ u, ((w.setCell ⟨g, i * 3, none⟩ (.int .i64 x0)).setCell ⟨g, i * 3 + 1, none⟩ (.int .i64 x1)).cell? ⟨g, i * 3 + 2, none⟩ = some u) ∧
    (set3 w g (i * 3) (x0, x1, x2)).ownsRow base ty 3 (.slice (some ⟨g, 0, none⟩) n cap) n (ev (ch f i (x0, x1, x2)) n) := by
  have hl := ev_length f n
  have h1 := (h.stored (i * 3) (.int .i64 x0)).1
  have h2 := (h1.stored (i * 3 + 1) (.int .i64 x1)).1
  have get : ∀ {xs : List Value} {W : World}, W.ownsRow base ty 3 (.slice (some ⟨g, 0, none⟩) n cap) n xs → ∀ j, j < n * 3 → ∃ u, W.cell? ⟨g, j, none⟩ = some u := fun {xs W} hh j hj => by
    rw [hh.cellAt j hj]
    have := hh.1
    exact ⟨_, List.getElem?_eq_getElem (by omega)⟩
  exact ⟨h.frozenAt _, get h _ (by omega), h1.frozenAt _, get h1 _ (by omega), h2.frozenAt _, get h2 _ (by omega), set3_own h (x0, x1, x2) hi⟩
/-- A store into the map, as an equation. -/
theorem put_run {w : World} {M m : Nat} {D : DataW Unit} (h : w.ownsMap Try.prog 3 (plainElem Try.prog 3) M m D) (hm : m ≤ 1000000) (p c : Int) (hp : (key p).wf = true) (hc : (key c).wf = true) :
    ∃ w', (Instr.mapUpdate 46 (.map (some M)) (.int .i64 p) (.int .i64 c)).run Try.prog w = .ok () w' ∧ w'.ownsMap Try.prog 3 (plainElem Try.prog 3) M (Maps.size (D.put (key p) (.lit (.int .i64 c)))) (D.put (key p) (.lit (.int .i64 c))) ∧ w.mapTurned w' M := by
  obtain ⟨w', h1, h2, h3⟩ := h.store (int_keyed Try.underlying3) Try.underlying46 (by unfold maxLen; omega) (keyOf_int_mk Try.underlying3 hp) (plainElem_int Try.underlying3 hc)
  exact ⟨w', h1, map_fit h2, h3⟩
theorem wf_nat {k : Nat} (h : k ≤ 1000000) : (key (k : Int)).wf = true := by
  show (Lit.int .i64 (k : Int)).wf = true
  exact WalkArith.wf_i64 (by omega)
section
variable {w : World} {O M n : Nat} {v : Value} {f : Nat → Ent}
set_option maxRecDepth 100000 in
set_option maxHeartbeats 3200000 in
theorem swap_calls (h : Ag w O v M n f) {i j : Nat} (hi : i < n) (hj : j < n) (hn : n ≤ 1000000) :
    Calls Try.prog 43 #[pt O, .int .i64 (i : Int), .int .i64 (j : Int)] w fun e w' => e = .returned (.tuple #[]) ∧ Ag w' O v M n (swp f i j) ∧ Mut (own O M v) w w' := by
  obtain ⟨g, cap, rfl, h1, h2⟩ := h.pos (by omega)
  have c0 := h.c0
  have c1 := h.c1
  obtain ⟨hgO, hgM⟩ := h.neg (g := g) rfl
  have hOM := h.neOM
  obtain ⟨p0, p1, p2⟩ := h.at' hi
  obtain ⟨q0, q1, q2⟩ := h.at' hj
  obtain ⟨D, hD, hs, hP⟩ := h.map
  have wi := h.wf i hi
  have wj := h.wf j hj
  have hPs := hP.swap hD.isMap h.inj h.wf hi hj
  have hC := swp_cont (f := f) hi hj
  have HW := hid (show Inj (fun e : Ent => e.1) (swp f i j) n ∧ Wf (swp f i j) n from ⟨swp_inj hi hj h.inj, fun k hk => by
    obtain ⟨k', hk', e⟩ := (hC _).1 ⟨k, hk, rfl⟩
    have := h.wf k' hk'
    rwa [e] at this⟩)
  have tD := hD.tidy (int_keyed Try.underlying3)
  rw [swp_l, swp_r] at hPs
  have hasi : Maps.has D (key (f i).1) = true := (hP _ wi).1.2 ⟨i, hi, rfl⟩
  have hasj : Maps.has D (key (f j).1) = true := (hP _ wj).1.2 ⟨j, hj, rfl⟩
  obtain ⟨⟨x0, x1, x2⟩, hx⟩ : ∃ x, f i = x := ⟨_, rfl⟩
  obtain ⟨⟨y0, y1, y2⟩, hy⟩ : ∃ x, f j = x := ⟨_, rfl⟩
  have hsi : (swp f i j i).1 = y0 := by rw [swp_l, hy]
  have hsj : (swp f i j j).1 = x0 := by rw [swp_r, hx]
  -- the row
  obtain ⟨a0, ⟨u0, b0⟩, a1, ⟨u1, b1⟩, a2, ⟨u2, b2⟩, ro1⟩ := st3 h.row y0 y1 y2 hi
  obtain ⟨a3, ⟨u3, b3⟩, a4, ⟨u4, b4⟩, a5, ⟨u5, b5⟩, ro2⟩ := st3 ro1 x0 x1 x2 hj
  have m1 := (set3_mut w g (i * 3) (y0, y1, y2) (S := fun k => k = g) rfl).trans (set3_mut _ g (j * 3) (x0, x1, x2) (S := fun k => k = g) rfl) (fun _ _ e => e)
  have e0 : ch (ch f i (y0, y1, y2)) j (x0, x1, x2) = swp f i j := by rw [← hx, ← hy]; exact ch_swp f i j
  rw [e0] at ro2
  have blk := h.blk
  rw [hx] at p0 p1 p2 wi hasi hPs
  rw [hy] at q0 q1 q2 wj hasj hPs
  have k0 : (0 : Int) ≤ i := by omega
  have k1 : (i : Int) < n := by omega
  have k2 : (0 : Int) ≤ j := by omega
  have k3 : (j : Int) < n := by omega
  simp only at p0 p1 p2 q0 q1 q2 wi wj hasi hasj hPs
  -- the world behind the stores, and what is read of it
  obtain ⟨W1, hW1⟩ : ∃ W, (set3 (set3 w g (i * 3) (y0, y1, y2)) g (j * 3) (x0, x1, x2)).drew = W := ⟨_, rfl⟩
  have ro2 := ro2.drew
  have m1 := m1.drew
  rw [hW1] at ro2 m1
  have blk1 : W1.heap[O]? = some (.cells #[.slice (some ⟨g, 0, none⟩) n cap, .map (some M)] 50 (0, 0)) := (m1.block O h.ltO (fun e => hgO e.symm)).trans blk
  have D1 := map_mut hD m1 (fun e => hgM e.symm)
  have ci1 : W1.cell? ⟨g, i * 3, none⟩ = some (.int .i64 y0) := by rw [ro2.cellAt _ (by omega), (ev_get _ _ i hi).1, hsi]
  obtain ⟨W2, r2, o2, t2⟩ := put_run D1.drew (by omega) y0 i wj (wf_nat (by omega))
  have s2 : Maps.size (D.put (key y0) (.lit (.int .i64 (i : Int)))) = n := by rw [size_put tD, if_pos hasj, hs]
  have m2 : Mut (fun k => k = M) W1 W2 := (Mut.refl _ W1).drew.trans (turned_mut t2 (S := fun k => k = M) rfl) (fun _ _ e => e)
  have blk2 := (m2.block O (Nat.lt_of_lt_of_le h.ltO m1.size) hOM).trans blk1
  have ro3 := owns_mut ro2 m2 (fun k e => by cases e; exact hgM)
  have cj2 : W2.cell? ⟨g, j * 3, none⟩ = some (.int .i64 x0) := by rw [ro3.cellAt _ (by omega), (ev_get _ _ j hj).1, hsj]
  have ci2 : W2.cell? ⟨g, i * 3, none⟩ = some (.int .i64 y0) := by rw [ro3.cellAt _ (by omega), (ev_get _ _ i hi).1, hsi]
  obtain ⟨W3, r3, o3, t3⟩ := put_run o2.drew (by omega) x0 j wi (wf_nat (by omega))
  have has2 : Maps.has (D.put (key y0) (.lit (.int .i64 (i : Int)))) (key x0) = true := by
    by_cases e : x0 = y0
    · rw [e]; exact has_put_same hD.isMap (key_is wj) _
    · rw [has_put_other (fun h => e (key_inj h))]; exact hasi
  have s3 : Maps.size ((D.put (key y0) (.lit (.int .i64 (i : Int)))).put (key x0) (.lit (.int .i64 (j : Int)))) = n := by rw [size_put (tD.put (key_is wj) _), if_pos has2, s2]
  have m3 : Mut (fun k => k = M) W2 W3 := (Mut.refl _ W2).drew.trans (turned_mut t3 (S := fun k => k = M) rfl) (fun _ _ e => e)
  have blk3 := (m3.block O (Nat.lt_of_lt_of_le h.ltO (Nat.le_trans m1.size m2.size)) hOM).trans blk2
  have ro4 := owns_mut ro3 m3 (fun k e => by cases e; exact hgM)
  have cj3 : W3.cell? ⟨g, j * 3, none⟩ = some (.int .i64 x0) := by rw [ro4.cellAt _ (by omega), (ev_get _ _ j hj).1, hsj]
  rw [s3] at o3
  have FIN := hid (show Ag W3 O (.slice (some ⟨g, 0, none⟩) n cap) M n (swp f i j) ∧ Mut (own O M (.slice (some ⟨g, 0, none⟩) n cap)) w W3 from
    ⟨⟨blk3, ro4, ⟨_, o3, s3, hPs⟩, HW.out.1, HW.out.2⟩, (m1.mono (S' := own O M (.slice (some ⟨g, 0, none⟩) n cap)) (fun k e => .inr (.inr (by rw [e]; rfl)))).trans ((m2.trans m3 (fun _ _ e => e)).mono (S' := own O M (.slice (some ⟨g, 0, none⟩) n cap)) (fun k e => .inr (.inl e))) (fun _ _ e => e)⟩)
  have K1 := hid (show W1.cell? ⟨O, 0, none⟩ = some (.slice (some ⟨g, 0, none⟩) n cap) ∧ W1.cell? ⟨O, 1, none⟩ = some (.map (some M)) ∧ W1.cell? ⟨g, i * 3, none⟩ = some (.int .i64 y0) from ⟨by simp [World.cell?, blk1], by simp [World.cell?, blk1], ci1⟩)
  have K2 := hid (show W2.cell? ⟨O, 0, none⟩ = some (.slice (some ⟨g, 0, none⟩) n cap) ∧ W2.cell? ⟨O, 1, none⟩ = some (.map (some M)) ∧ W2.cell? ⟨g, i * 3, none⟩ = some (.int .i64 y0) from ⟨by simp [World.cell?, blk2], by simp [World.cell?, blk2], ci2⟩)
  have K2' := hid (show W2.cell? ⟨O, 0, none⟩ = some (.slice (some ⟨g, 0, none⟩) n cap) ∧ W2.cell? ⟨O, 1, none⟩ = some (.map (some M)) ∧ W2.cell? ⟨g, j * 3, none⟩ = some (.int .i64 x0) from ⟨K2.out.1, K2.out.2.1, cj2⟩)
  have K3 := hid (show W3.cell? ⟨O, 0, none⟩ = some (.slice (some ⟨g, 0, none⟩) n cap) ∧ W3.cell? ⟨O, 1, none⟩ = some (.map (some M)) ∧ W3.cell? ⟨g, j * 3, none⟩ = some (.int .i64 x0) from ⟨by simp [World.cell?, blk3], by simp [World.cell?, blk3], cj3⟩)
  have R2 := hid r2
  have R3 := hid r3
  unfold set3 at a3 a4 a5 b3 b4 b5
  clear h hD hs hP hPs HW tD hasi hasj ro1 ro2 ro3 ro4 m1 m2 m3 blk blk1 blk2 blk3 D1 ci1 ci2 cj2 cj3 o2 o3 s2 s3 t2 t3 has2 r2 r3 e0 hx hy hsi hsj hC wi wj
  go_enter Try.func43, Try.ntmps43
  go_wp2_with fail
  go_region
  show Exit.then _ _ Exit.normal _ (set3 (set3 w g (i * 3) (y0, y1, y2)) g (j * 3) (x0, x1, x2)).drew
  rw [hW1]
  clear hW1 a0 a1 a2 a3 a4 a5 b0 b1 b2 b3 b4 b5 p0 p1 p2 q0 q1 q2 c0 c1
  have r2 := R2.out
  obtain ⟨d0, d1, d2⟩ := K1.out
  go_wp2_with fail
  go_region
  clear d0 d1 d2 r2 K1
  have r3 := R3.out
  obtain ⟨d0, d1, d2⟩ := K2'.out
  go_wp2_with fail
  go_region
  go_wp2_with fail
  go_end0
  exact ⟨rfl, FIN.out⟩
end
end Go.Proofs.Ytadkiikakgmpnaa
