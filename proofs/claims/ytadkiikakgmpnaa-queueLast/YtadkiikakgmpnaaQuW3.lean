/-
  Walks of an agenda's row: Push, Pop.
-/
import Derived.Test.YtadkiikakgmpnaaQuW2
import Derived.OwnWalk
import Derived.BigRegion
import Derived.Deep.RegionLaw
namespace Go.Proofs.Ytadkiikakgmpnaa
open Go.RowKit Go.Maps Hp
set_option linter.unusedVariables false
theorem Try.infoE : (Try.prog.info? 28).map (fun i => (i.zero, i.size, i.bytes)) = some (some (.agg #[.int .i64 0, .int .i64 0, .int .i64 0]), 3, 24) := by kernel_rfl
/-- An entry of one row behind another. -/
theorem ev_add (f : Nat → Ent) (n : Nat) (x : Ent) : ev f n ++ [.int .i64 x.1, .int .i64 x.2.1, .int .i64 x.2.2] = ev (fun k => if k < n then f k else x) (n + 1) := by
  rw [← ev_snoc (fun k => if k < n then f k else x)]
  congr 1
  · exact ev_congr (fun i hi => by simp [hi])
  · simp
theorem del_run {w : World} {M m : Nat} {D : DataW Unit} (h : w.ownsMap Try.prog 3 (plainElem Try.prog 3) M m D) (p : Int) (hp : (key p).wf = true) (ty : TypeId) :
    ∃ w', (Builtin.delete_ #[46, 3] ty #[.map (some M), .int .i64 p]).run Try.prog w = .ok (.tuple #[]) w' ∧ w'.ownsMap Try.prog 3 (plainElem Try.prog 3) M (Maps.size (D.del (key p))) (D.del (key p)) ∧ w.mapTurned w' M := by
  obtain ⟨w', h1, h2, h3⟩ := h.drop (int_keyed Try.underlying3) Try.underlying46 (keyOf_int_mk Try.underlying3 hp) ty
  exact ⟨w', h1, map_fit h2, h3⟩
theorem ta_e (x0 x1 x2 : Int) (w : World) : (Instr.typeAssert (.iface 28 (.agg #[.int .i64 x0, .int .i64 x1, .int .i64 x2])) 20 28 false).run Try.prog w = .ok (.agg #[.int .i64 x0, .int .i64 x1, .int .i64 x2]) w := by kernel_rfl
theorem blk_grown {W w5 : World} {O : Nat} {o x : Obj} {r : Option Nat} (h : W.heap[O]? = some x) (hg : ((W.alloc o).drew).grownBy w5 r) (hne : some O ≠ r) : w5.heap[O]? = some x := by
  have hlt := (Array.getElem?_eq_some_iff.1 h).1
  have h1 : (W.alloc o).drew.heap[O]? = some x := (Below.heap_alloc _ _ _ hlt).trans h
  exact (hg.block O (Array.getElem?_eq_some_iff.1 h1).1 hne).trans h1
theorem cell_al {W : World} {p : Addr} {v : Value} (h : W.cell? p = some v) (o : Obj) : (W.alloc o).cell? p = some v :=
  (World.cell?_of_block (Below.heap_alloc _ _ _ (World.block_lt_of_cell? _ _ h))).trans h
theorem own_sl {w : World} {base n : Nat} {e : TypeId} {v : Value} {xs : List Value} (h : w.ownsRow base e 3 v n xs) : ∃ a cap, v = .slice a n cap := by
  rcases h.2 with ⟨rfl, rfl⟩ | ⟨g, cap, cur, rfl, _⟩
  · exact ⟨none, 0, rfl⟩
  · exact ⟨_, cap, rfl⟩
theorem own_cut {w : World} {g n cap : Nat} {e : TypeId} {f : Nat → Ent} (h : w.ownsRow 0 e 3 (.slice (some ⟨g, 0, none⟩) (n + 1) cap) (n + 1) (ev f (n + 1))) : w.ownsRow 0 e 3 (.slice (some ⟨g, 0, none⟩) n cap) n (ev f n) := by
  refine ⟨ev_length f n, ?_⟩
  rcases h.2 with ⟨hv, _⟩ | ⟨g', cap', cur, hv, hb, hg, h1, h2, h3, h4⟩
  · cases hv
  · simp only [Value.slice.injEq, Option.some.injEq, Addr.mk.injEq, and_true, true_and] at hv
    obtain ⟨rfl, rfl⟩ := hv
    refine .inr ⟨g, cap, cur, rfl, hb, hg, by omega, h2, h3, ?_⟩
    have e1 : (cur.toList.take ((n + 1) * 3)).take (n * 3) = cur.toList.take (n * 3) := by rw [List.take_take]; congr 1; omega
    rw [← e1, h4, ← ev_snoc, List.take_left' (ev_length f n)]
/-- The blocks of the row of a call's own: as they were, or new. -/
def Same (w : World) (v v' : Value) : Prop := ∀ k, v'.ownBlock = some k → v.ownBlock = some k ∨ w.heap.size ≤ k
theorem grown_mut {W W' : World} {r : Option Nat} (h : W.grownBy W' r) {S : Nat → Prop} (hS : ∀ k, r = some k → S k) : Mut S W W' :=
  ⟨h.os, h.tape, h.output, h.size, fun k hk hn => h.block k hk (fun e => hn (hS k e.symm))⟩
theorem push_fin {w W0 W1 w5 : World} {O M n cap q5 : Nat} {a a5 : Option Addr} {f : Nat → Ent} {x : Ent} {D : DataW Unit} {o : Obj}
    (L0 : ∀ k, own O M (.slice a n cap) k → k < w.heap.size) (B0 : Below w.heap.size w W0) (MM : Mut (fun k => k = M) W0 W1)
    (OM : W1.ownsMap Try.prog 3 (plainElem Try.prog 3) M (n + 1) D) (s1 : Maps.size D = n + 1) (HP : PlD (fun k => if k < n then f k else x) (n + 1) D)
    (HI : Inj (fun e : Ent => e.1) (fun k => if k < n then f k else x) (n + 1) ∧ Wf (fun k => if k < n then f k else x) (n + 1)) (hgO : ∀ g, (Value.slice a n cap).ownBlock = some g → g ≠ O ∧ g ≠ M) (hOM : O ≠ M)
    (ho5 : w5.ownsRow 0 28 3 (.slice a5 (n + 1) q5) (n + 1) (ev f n ++ [.int .i64 x.1, .int .i64 x.2.1, .int .i64 x.2.2])) (hg5 : ((W1.alloc o).drew).grownBy w5 (Value.slice a n cap).ownBlock)
    (hob5 : (Value.slice a5 (n + 1) q5).ownBlock = (Value.slice a n cap).ownBlock ∨ (Value.slice a5 (n + 1) q5).ownBlock = some ((W1.alloc o).drew).heap.size)
    (BO : w5.heap[O]? = some (.cells #[.slice a n cap, .map (some M)] 50 (0, 0))) :
    ∃ v', Ag (w5.setCell ⟨O, 0, none⟩ (.slice a5 (n + 1) q5)) O v' M (n + 1) (fun k => if k < n then f k else x) ∧ Same w (.slice a n cap) v' ∧ Mut (own O M (.slice a n cap)) w (w5.setCell ⟨O, 0, none⟩ (.slice a5 (n + 1) q5)) := by
  have hs1 : w.heap.size ≤ ((W1.alloc o).drew).heap.size := Nat.le_trans (Nat.le_trans B0.size MM.size) (by show _ ≤ (W1.alloc o).heap.size; simp)
  have hO := L0 O (.inl rfl)
  have m5 : Mut (fun k => k = O) w5 (w5.setCell ⟨O, 0, none⟩ (.slice a5 (n + 1) q5)) := Mut.set w5 O 0 _ rfl
  rw [ev_add] at ho5
  refine ⟨_, ⟨?_, owns_mut ho5 m5 (fun k e hk => ?_), ⟨D, map_mut (((OM.alloc o).drew).kept hg5 (fun e => (hgO M e.symm).2 rfl)) m5 (fun e => hOM e.symm), s1, HP⟩, HI.1, HI.2⟩, fun k hk => ?_, ?_⟩
  · rw [heap_setCell_same w5 O 0 _ _ _ BO]; rfl
  · subst hk
    rcases hob5 with h | h
    · exact (hgO k (h.symm.trans e)).1 rfl
    · rw [h] at e
      have := Option.some.inj e
      omega
  · rcases hob5 with h | h
    · exact .inl (h.symm.trans hk)
    · rw [h] at hk
      have := Option.some.inj hk
      exact .inr (by omega)
  · have a1 : Mut (own O M (.slice a n cap)) w W0 := Mut.ofBelow B0 _
    have a2 : Mut (own O M (.slice a n cap)) W0 W1 := MM.mono (fun k e => .inr (.inl e))
    have a3 : Mut (own O M (.slice a n cap)) W1 ((W1.alloc o).drew) := Mut.ofBelow ((Below.refl _ _).alloc (Nat.le_refl _) _).drew _
    have a4 : Mut (own O M (.slice a n cap)) ((W1.alloc o).drew) w5 := grown_mut hg5 (fun k e => .inr (.inr e))
    have a5' : Mut (own O M (.slice a n cap)) w5 (w5.setCell ⟨O, 0, none⟩ (.slice a5 (n + 1) q5)) := m5.mono (fun k e => .inl e)
    exact (((a1.trans a2 (fun _ _ e => e)).trans a3 (fun _ _ e => e)).trans a4 (fun _ _ e => e)).trans a5' (fun _ _ e => e)
section
variable {w : World} {O M n : Nat} {v : Value} {f : Nat → Ent}
set_option maxRecDepth 100000 in
set_option maxHeartbeats 3200000 in
theorem push_calls (h : Ag w O v M n f) (x : Ent) (hx : (key x.1).wf = true) (hno : ∀ k, k < n → (f k).1 ≠ x.1) (hn : n ≤ 100000) :
    Calls Try.prog 42 #[pt O, .iface 28 (va x)] w fun e w' => e = .returned (.tuple #[]) ∧ ∃ v', Ag w' O v' M (n + 1) (fun k => if k < n then f k else x) ∧ Same w v v' ∧ Mut (own O M v) w w' := by
  obtain ⟨i0, hi0, hz0, hz1, hz2⟩ := info_parts Try.infoE
  obtain ⟨x0, x1, x2⟩ := x
  simp only at hx hno
  obtain ⟨a, cap, rfl⟩ := h.sl
  have A0 := hid (h.below ((Below.refl w.heap.size w).alloc (Nat.le_refl _) (.cells #[.int .i64 x0, .int .i64 x1, .int .i64 x2] 28)))
  have B0 := hid ((Below.refl w.heap.size w).alloc (Nat.le_refl _) (.cells #[.int .i64 x0, .int .i64 x1, .int .i64 x2] 28))
  have L0 := hid (show ∀ k, own O M (.slice a n cap) k → k < w.heap.size from fun k hk => h.lt hk)
  obtain ⟨W0, hW0⟩ : ∃ W, w.alloc (.cells #[.int .i64 x0, .int .i64 x1, .int .i64 x2] 28) = W := ⟨_, rfl⟩
  have n0 : W0.cell? ⟨w.heap.size, 0, none⟩ = some (.int .i64 x0) ∧ W0.cell? ⟨w.heap.size, 1, none⟩ = some (.int .i64 x1) ∧ W0.cell? ⟨w.heap.size, 2, none⟩ = some (.int .i64 x2) := by rw [← hW0]; simp
  rw [hW0] at A0 B0
  obtain ⟨D, hD, hs, hP⟩ := A0.out.map
  have hOM := A0.out.neOM
  have hgO : ∀ g, (Value.slice a n cap).ownBlock = some g → g ≠ O ∧ g ≠ M := fun g e => A0.out.neg e
  have hKM : w.heap.size ≠ M := by have := L0.out M (.inr (.inl rfl)); omega
  have hKO : w.heap.size ≠ O := by have := L0.out O (.inl rfl); omega
  obtain ⟨W1, r1, o1, t1⟩ := put_run hD.drew (by omega) x0 n hx (wf_nat (by omega))
  have tD := hD.tidy (int_keyed Try.underlying3)
  have hnot : ¬ Maps.has D (key x0) = true := fun e => by
    obtain ⟨k, hk, hq⟩ := (hP _ hx).1.1 e
    exact hno k hk hq
  have s1 : Maps.size (D.put (key x0) (.lit (.int .i64 (n : Int)))) = n + 1 := by rw [size_put tD, if_neg hnot, hs]
  rw [s1] at o1
  have m1 : Mut (fun k => k = M) W0 W1 := (Mut.refl _ W0).drew.trans (turned_mut t1 (S := fun k => k = M) rfl) (fun _ _ e => e)
  have hPn := hP.put hD.isMap (x0, x1, x2) hx hno
  have blk1 := (m1.block O A0.out.ltO hOM).trans A0.out.blk
  have ro1 := owns_mut A0.out.row m1 (fun k e => (hgO k e).2)
  have hltK : w.heap.size < W0.heap.size := by rw [← hW0]; simp
  have HI := hid (show Inj (fun e : Ent => e.1) (fun k => if k < n then f k else (x0, x1, x2)) (n + 1) ∧ Wf (fun k => if k < n then f k else (x0, x1, x2)) (n + 1) from ⟨fun i j hi hj hq => by
    by_cases h1 : i < n <;> by_cases h2 : j < n <;> simp only [h1, h2, if_true, if_false] at hq
    · exact h.inj i j h1 h2 hq
    · exact absurd hq (hno i h1)
    · exact absurd hq.symm (hno j h2)
    · omega, fun k hk => by
    by_cases h1 : k < n <;> simp only [h1, if_true, if_false]
    · exact h.wf k h1
    · exact hx⟩)
  have K0 := hid (show W0.cell? ⟨O, 0, none⟩ = some (.slice a n cap) ∧ W0.cell? ⟨O, 1, none⟩ = some (.map (some M)) ∧ W0.cell? ⟨w.heap.size, 0, none⟩ = some (.int .i64 x0) from ⟨A0.out.c0, A0.out.c1, n0.1⟩)
  have K1 := hid (show W1.cell? ⟨O, 0, none⟩ = some (.slice a n cap) ∧ W1.cell? ⟨O, 1, none⟩ = some (.map (some M)) ∧ W1.cell? ⟨w.heap.size, 0, none⟩ = some (.int .i64 x0) from ⟨by simp [World.cell?, blk1], by simp [World.cell?, blk1], (m1.cell hltK hKM).trans n0.1⟩)
  have N1 := hid (show W1.cell? ⟨w.heap.size, 1, none⟩ = some (.int .i64 x1) ∧ W1.cell? ⟨w.heap.size, 2, none⟩ = some (.int .i64 x2) from ⟨(m1.cell hltK hKM).trans n0.2.1, (m1.cell hltK hKM).trans n0.2.2⟩)
  have R1 := hid r1
  have RO := hid ro1
  have OM := hid o1
  have BL := hid blk1
  have MM := hid m1
  have HP := hid hPn
  have HS := hid s1
  clear h hD hs hP tD hnot s1 m1 o1 hPn blk1 ro1 t1 r1 n0 A0
  go_enter Try.func42, Try.ntmps42
  unfold va
  have hta := ta_e x0 x1 x2
  go_wp2_with fail
  clear hW0
  have r1 := R1.out
  obtain ⟨d0, d1, d2⟩ := K0.out
  go_region
  clear d0 d1 d2 r1 K0 R1
  obtain ⟨d0, d1, d2⟩ := K1.out
  obtain ⟨d3, d4⟩ := N1.out
  have c0a := cell_al d0 (.cells #[.int .i64 x0, .int .i64 x1, .int .i64 x2] 28)
  have f0 : W1.frozen? ⟨O, 0, none⟩ = false := by simp [World.frozen?, BL.out]
  go_wp2_with fail
  go_region_law
    (first | (refine step_append_src (by rfl) _ _ _ (by rfl) 0 28 i0 _ 3 24 Try.underlying26 hi0 hz0 hz1 hz2 rfl (by omega) (.slice a n cap) n (ev f n) (by rfl) ((RO.out.alloc _).drew) (some ⟨W1.heap.size, 0, none⟩) 1 1 [.int .i64 x0, .int .i64 x1, .int .i64 x2] (by rfl) ((Src.new (w := W1) #[.int .i64 x0, .int .i64 x1, .int .i64 x2] 28 W1.heap.size rfl rfl (by simp [Value.oneCell'])).below (Below.refl _ _).drew) (by unfold maxLen; omega) (by omega) (Nat.zero_le _) ?_; intro v5 w5 ho5 hg5 hob5; have O5 := hid ho5; have G5 := hid hg5; have P5 := hid hob5; clear ho5 hg5 hob5; obtain ⟨a5, q5, rfl⟩ := own_sl O5.out; have BO := hid (blk_grown BL.out G5.out (fun e => (hgO O e.symm).1 rfl)); have x5 : w5.cell? ⟨O, 0, none⟩ = some (.slice a n cap) := (by simp [World.cell?, BO.out]); have z5 : w5.frozen? ⟨O, 0, none⟩ = false := (by simp [World.frozen?, BO.out])))
  all_goals
    go_wp2_with fail
    go_end0
    exact ⟨rfl, push_fin L0.out B0.out MM.out OM.out HS.out HP.out HI.out hgO hOM O5.out G5.out P5.out BO.out⟩
set_option maxRecDepth 100000 in
set_option maxHeartbeats 3200000 in
theorem pop_calls (h : Ag w O v M (n + 1) f) (hn : n ≤ 100000) :
    Calls Try.prog 41 #[pt O] w fun e w' => e = .returned (.iface 28 (va (f n))) ∧ ∃ v', Ag w' O v' M n f ∧ v'.ownBlock = v.ownBlock ∧ Mut (own O M v) w w' := by
  obtain ⟨g, cap, rfl, h1, h2⟩ := h.pos (by omega)
  have c0 := h.c0
  have c1 := h.c1
  obtain ⟨p0, p1, p2⟩ := h.at' (i := n) (by omega)
  obtain ⟨⟨x0, x1, x2⟩, hx⟩ : ∃ x, f n = x := ⟨_, rfl⟩
  rw [hx] at p0 p1 p2 ⊢
  simp only at p0 p1 p2
  obtain ⟨hgO, hgM⟩ := h.neg (g := g) rfl
  have hOM := h.neOM
  have hltO := h.ltO
  have hltM := h.ltM
  obtain ⟨D, hD, hs, hP⟩ := h.map
  have tD := hD.tidy (int_keyed Try.underlying3)
  have wn := h.wf n (by omega)
  rw [hx] at wn
  obtain ⟨Wa, hWa⟩ : ∃ W, w.alloc (.cells #[.int .i64 x0, .int .i64 x1, .int .i64 x2] 28) = W := ⟨_, rfl⟩
  have na : Wa.cell? ⟨w.heap.size, 0, none⟩ = some (.int .i64 x0) ∧ Wa.cell? ⟨w.heap.size, 1, none⟩ = some (.int .i64 x1) ∧ Wa.cell? ⟨w.heap.size, 2, none⟩ = some (.int .i64 x2) ∧ Wa.heap.size = w.heap.size + 1 := by rw [← hWa]; simp
  have ba := (Below.refl w.heap.size w).alloc (Nat.le_refl _) (.cells #[.int .i64 x0, .int .i64 x1, .int .i64 x2] 28)
  rw [hWa] at ba
  have Aa := h.below ba
  have c0a := Aa.c0
  have f0a := Aa.fz 0
  obtain ⟨W1, hW1⟩ : ∃ W, Wa.setCell ⟨O, 0, none⟩ (.slice (some ⟨g, 0, none⟩) n cap) = W := ⟨_, rfl⟩
  have m1 : Mut (fun k => k = O) Wa W1 := by rw [← hW1]; exact Mut.set Wa O 0 _ rfl
  have blk1 : W1.heap[O]? = some (.cells #[.slice (some ⟨g, 0, none⟩) n cap, .map (some M)] 50 (0, 0)) := by
    rw [← hW1, heap_setCell_same Wa O 0 _ _ _ Aa.blk]; rfl
  have hD1 := map_mut (h.below ba).map.choose_spec.1 m1 (fun e => hOM e.symm)
  have hltK : w.heap.size < Wa.heap.size := by omega
  have D1 : W1.ownsMap Try.prog 3 (plainElem Try.prog 3) M (n + 1) D := map_mut (map_mut hD (Mut.ofBelow ba (fun _ => False)) (fun e => e)) m1 (fun e => hOM e.symm)
  have ro1 := own_cut (owns_mut Aa.row m1 (fun k e => by cases e; exact hgO))
  obtain ⟨W2, r2, o2, t2⟩ := del_run D1.drew x0 wn 0
  have m2 : Mut (fun k => k = M) W1 W2 := (Mut.refl _ W1).drew.trans (turned_mut t2 (S := fun k => k = M) rfl) (fun _ _ e => e)
  have hPd := hP.del h.inj
  rw [hx] at hPd
  have has : Maps.has D (key x0) = true := (hP _ wn).1.2 ⟨n, by omega, by rw [hx]⟩
  have s2 : Maps.size (D.del (key x0)) = n := by
    have := size_del tD (k := key x0)
    rw [if_pos has, hs] at this
    omega
  rw [s2] at o2
  have lt1 := m1.size
  have blk2 := (m2.block O (Nat.lt_of_lt_of_le Aa.ltO lt1) hOM).trans blk1
  have ro2 := owns_mut ro1 m2 (fun k e => by cases e; exact hgM)
  have FIN := hid (show Ag W2 O (.slice (some ⟨g, 0, none⟩) n cap) M n f ∧ Mut (own O M (.slice (some ⟨g, 0, none⟩) (n + 1) cap)) w W2 from
    ⟨⟨blk2, ro2, ⟨_, o2, s2, hPd⟩, fun i j hi hj hq => h.inj i j (by omega) (by omega) hq, fun k hk => h.wf k (by omega)⟩,
      (Mut.ofBelow ba _).trans ((m1.mono (S' := own O M (.slice (some ⟨g, 0, none⟩) (n + 1) cap)) (fun k e => .inl e)).trans (m2.mono (S' := own O M (.slice (some ⟨g, 0, none⟩) (n + 1) cap)) (fun k e => .inr (.inl e))) (fun _ _ e => e)) (fun _ _ e => e)⟩)
  have K1 := hid (show W1.cell? ⟨O, 1, none⟩ = some (.map (some M)) ∧ W1.cell? ⟨w.heap.size, 0, none⟩ = some (.int .i64 x0) from ⟨by simp [World.cell?, blk1], (m1.cell hltK (by omega)).trans na.1⟩)
  have q2 : ∀ j, W2.cell? ⟨w.heap.size, j, none⟩ = Wa.cell? ⟨w.heap.size, j, none⟩ := fun j => (m2.cell (Nat.lt_of_lt_of_le hltK lt1) (by omega)).trans (m1.cell hltK (by omega))
  have N2 := hid (show W2.cell? ⟨w.heap.size, 0, none⟩ = some (.int .i64 x0) ∧ W2.cell? ⟨w.heap.size, 1, none⟩ = some (.int .i64 x1) ∧ W2.cell? ⟨w.heap.size, 2, none⟩ = some (.int .i64 x2) from ⟨(q2 0).trans na.1, (q2 1).trans na.2.1, (q2 2).trans na.2.2.1⟩)
  have R2 := hid r2
  have k0 : (0 : Int) ≤ n := by omega
  have e1 : IntKind.i64.wrap ((n : Int) + 1 - 1) = n := by rw [i64_in (by omega) (by omega)]; omega
  clear h hD hs hP tD wn na ba Aa m1 blk1 hD1 D1 ro1 m2 hPd has s2 blk2 ro2 q2 r2 o2 t2
  go_enter Try.func41, Try.ntmps41
  go_wp2_with fail
  clear hWa hW1 c0a f0a p0 p1 p2 c0 c1
  obtain ⟨d0, d1⟩ := K1.out
  have r2 := R2.out
  go_region
  clear d0 d1 r2 K1 R2
  obtain ⟨d0, d1, d2⟩ := N2.out
  go_wp2_with fail
  go_ret
  exact ⟨rfl, _, FIN.out.1, rfl, FIN.out.2⟩
end
end Go.Proofs.Ytadkiikakgmpnaa
