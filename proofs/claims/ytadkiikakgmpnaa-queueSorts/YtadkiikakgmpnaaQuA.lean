/-
  Walks of an agenda: New, Len, Has, Put, Drop, Take.
-/
import Derived.Test.YtadkiikakgmpnaaQuH3
namespace Go.Proofs.Ytadkiikakgmpnaa
open Go.RowKit Go.Maps Hp
set_option linter.unusedVariables false
theorem Try.zeroIq (w : World) : (zeroValue 3).run Try.prog w = .ok (.int .i64 0) w := by kernel_rfl
/-- A block of an entry, as it is written: between the stores and behind them. -/
theorem ret_e {W : World} {R : Nat} {t : TypeId} {a b c : Value} (X : W.heap[R]? = some (.cells #[a, b, c] t (0, 0))) (x y z : Value) :
    (W.cell? ⟨R, 0, none⟩ = some a ∧ W.frozen? ⟨R, 0, none⟩ = false) ∧
    ((W.setCell ⟨R, 0, none⟩ x).cell? ⟨R, 1, none⟩ = some b ∧ (W.setCell ⟨R, 0, none⟩ x).frozen? ⟨R, 1, none⟩ = false) ∧
    (((W.setCell ⟨R, 0, none⟩ x).setCell ⟨R, 1, none⟩ y).cell? ⟨R, 2, none⟩ = some c ∧ ((W.setCell ⟨R, 0, none⟩ x).setCell ⟨R, 1, none⟩ y).frozen? ⟨R, 2, none⟩ = false) ∧
    ((((W.setCell ⟨R, 0, none⟩ x).setCell ⟨R, 1, none⟩ y).setCell ⟨R, 2, none⟩ z).cell? ⟨R, 0, none⟩ = some x ∧ (((W.setCell ⟨R, 0, none⟩ x).setCell ⟨R, 1, none⟩ y).setCell ⟨R, 2, none⟩ z).cell? ⟨R, 1, none⟩ = some y ∧ (((W.setCell ⟨R, 0, none⟩ x).setCell ⟨R, 1, none⟩ y).setCell ⟨R, 2, none⟩ z).cell? ⟨R, 2, none⟩ = some z) ∧
    (((W.setCell ⟨R, 0, none⟩ x).setCell ⟨R, 1, none⟩ y).setCell ⟨R, 2, none⟩ z).heap[R]? = some (.cells #[x, y, z] t (0, 0)) := by
  have h1 := heap_setCell_same W R 0 _ t x X
  have h2 := heap_setCell_same _ R 1 _ t y h1
  have h3 := heap_setCell_same _ R 2 _ t z h2
  have h1' : (W.setCell ⟨R, 0, none⟩ x).heap[R]? = some (.cells #[x, b, c] t (0, 0)) := h1
  have h2' : ((W.setCell ⟨R, 0, none⟩ x).setCell ⟨R, 1, none⟩ y).heap[R]? = some (.cells #[x, y, c] t (0, 0)) := h2
  have h3' : (((W.setCell ⟨R, 0, none⟩ x).setCell ⟨R, 1, none⟩ y).setCell ⟨R, 2, none⟩ z).heap[R]? = some (.cells #[x, y, z] t (0, 0)) := h3
  refine ⟨⟨?_, ?_⟩, ⟨?_, ?_⟩, ⟨?_, ?_⟩, ⟨?_, ?_, ?_⟩, h3'⟩
  · simp [World.cell?, X]
  · simp [World.frozen?, X]
  · simp only [World.cell?, h1']; rfl
  · simp only [World.frozen?, h1']; rfl
  · simp only [World.cell?, h2']; rfl
  · simp only [World.frozen?, h2']; rfl
  · simp only [World.cell?, h3']; rfl
  · simp only [World.cell?, h3']; rfl
  · simp only [World.cell?, h3']; rfl
theorem below_e {w W : World} {n R : Nat} (h : Below n w W) (hR : n ≤ R) (x y z : Value) : Below n w (((W.setCell ⟨R, 0, none⟩ x).setCell ⟨R, 1, none⟩ y).setCell ⟨R, 2, none⟩ z) :=
  ((h.setCell (p := ⟨R, 0, none⟩) hR x).setCell (p := ⟨R, 1, none⟩) hR y).setCell (p := ⟨R, 2, none⟩) hR z
theorem mut_e (W : World) (R : Nat) (x y z : Value) {S : Nat → Prop} (hS : S R) : Mut S W (((W.setCell ⟨R, 0, none⟩ x).setCell ⟨R, 1, none⟩ y).setCell ⟨R, 2, none⟩ z) :=
  ((Mut.set W R 0 x hS).trans (Mut.set _ R 1 y hS) (fun _ _ e => e)).trans (Mut.set _ R 2 z hS) (fun _ _ e => e)
/-- An agenda that holds l. -/
structure Qa (w : World) (O M : Nat) (v : Value) (l : List Ent) : Prop where
  ex : ∃ f, Hq w O v M l.length f ∧ ∀ e, e ∈ l ↔ Cont f l.length e
  dis : Dis l
def put (l : List Ent) (x : Ent) : List Ent := wo l x.1 ++ [x]
theorem Hq.kept {w w' : World} {O M n : Nat} {v : Value} {f : Nat → Ent} (h : Hq w O v M n f) {S : Nat → Prop} (hm : Mut S w w') (hS : ∀ k, own O M v k → ¬ S k) : Hq w' O v M n f := ⟨h.ag.kept hm hS, h.hp⟩
theorem Hq.below {w w' : World} {O M n : Nat} {v : Value} {f : Nat → Ent} (h : Hq w O v M n f) (hb : Below w.heap.size w w') : Hq w' O v M n f := ⟨h.ag.below hb, h.hp⟩
section
variable {w w' : World} {O M n : Nat} {v : Value} {f : Nat → Ent} {l : List Ent}
theorem Qa.kept (h : Qa w O M v l) {S : Nat → Prop} (hm : Mut S w w') (hS : ∀ k, own O M v k → ¬ S k) : Qa w' O M v l := by
  obtain ⟨f, h1, h2⟩ := h.ex
  exact ⟨⟨f, h1.kept hm hS, h2⟩, h.dis⟩
theorem Qa.below (h : Qa w O M v l) (hb : Below w.heap.size w w') : Qa w' O M v l := h.kept (Mut.ofBelow hb fun _ => False) fun _ _ e => e
theorem Qa.lt (h : Qa w O M v l) {k : Nat} (hk : own O M v k) : k < w.heap.size := by
  obtain ⟨f, h1, h2⟩ := h.ex
  exact h1.ag.lt hk
theorem Qa.wf (h : Qa w O M v l) : ∀ e ∈ l, (key e.1).wf = true := fun e he => by
  obtain ⟨f, h1, h2⟩ := h.ex
  obtain ⟨k, hk, rfl⟩ := (h2 e).1 he
  exact h1.ag.wf k hk
/-- A look-up of a place. -/
theorem Ag.look (h : Ag w O v M n f) (p : Int) (hp : (key p).wf = true) :
    ∃ (c : Int) (t : Bool), (Instr.lookup 46 (.map (some M)) (.int .i64 p) true).run Try.prog w = .ok (.tuple #[.int .i64 c, .bool t]) w ∧ ((t = true ∧ ∃ k : Nat, c = k ∧ k < n ∧ (f k).1 = p) ∨ (t = false ∧ ∀ k, k < n → (f k).1 ≠ p)) := by
  obtain ⟨D, hD, hs, hP⟩ := h.map
  obtain ⟨u, ps, hrun, hu⟩ := hD.look_ok (int_keyed Try.underlying3) Try.underlying46 (Try.zeroIq w) (plainElem_int Try.underlying3 (by decide)) (keyOf_int_mk Try.underlying3 hp)
  obtain ⟨c, rfl, hc, hwc⟩ := plainElem_int_inv Try.underlying3 hu
  refine ⟨c, _, hrun, ?_⟩
  obtain ⟨h1, h2⟩ := hP p hp
  simp only [Prod.mk.injEq] at hc
  cases hh : Maps.has D (key p) with
  | true =>
    left
    obtain ⟨k, hk, hq⟩ := h1.1 hh
    have h4 := hc.1
    rw [show D.atKey (Lit.int .i64 p) (DataW.lit (Lit.int IntKind.i64 0)) = DataW.lit (Lit.int .i64 (k : Int)) from h2 k hk hq _] at h4
    exact ⟨hh, k, by simpa using h4.symm, hk, hq⟩
  | false =>
    right
    refine ⟨hh, fun k hk hq => ?_⟩
    rw [h1.2 ⟨k, hk, hq⟩] at hh
    cases hh
theorem Ag.block (h : Ag w O v M n f) {K : Nat} (hK : w.heap.size ≤ K) : ¬ own O M v K := fun e => by have := h.lt e; omega

/-! ### New, Len -/
def NewOut (w : World) (e : Ending) (w' : World) : Prop := ∃ O M v, e = .returned (pt O) ∧ Qa w' O M v [] ∧ w.heap.size ≤ O ∧ w.heap.size ≤ M ∧ v.ownBlock = none ∧ Below w.heap.size w w'
set_option maxRecDepth 100000 in
set_option maxHeartbeats 1600000 in
theorem new_calls (w : World) : Calls Try.prog 8 #[] w fun e w' => NewOut w e w' := by
  have B := hid (((Below.refl w.heap.size w).alloc (Nat.le_refl _) (.map #[] 0)).alloc (by simp) (.cells #[.slice none 0 0, .map (some w.heap.size)] 50))
  have hs : (w.alloc (.map #[] 0)).heap.size = w.heap.size + 1 := by simp
  have A := hid (show Ag ((w.alloc (.map #[] 0)).alloc (.cells #[.slice none 0 0, .map (some w.heap.size)] 50)) (w.heap.size + 1) (.slice none 0 0) w.heap.size 0 (fun _ => (0, 0, 0)) from
    ⟨by rw [← hs]; exact heap_alloc_new _ _, World.ownsRow_nil _ _ _ _, ⟨_, (World.ownsMap_made w _ _ _).alloc _, rfl, fun p hp => ⟨⟨fun h => by simp [Maps.has] at h, fun ⟨k, hk, _⟩ => by omega⟩, fun k hk => by omega⟩⟩, fun i j hi => by omega, fun k hk => by omega⟩)
  clear hs
  have hmm := run_makeMap (P := Try.prog) 46
  go_enter Try.func8, Try.ntmps8
  go_wp2_with fail
  go_ret
  exact ⟨_, _, _, rfl, ⟨⟨_, ⟨A.out, fun k _ hk => by simp at hk⟩, fun e => ⟨fun h => (by cases h), fun ⟨k, hk, _⟩ => (by simp at hk)⟩⟩, List.Pairwise.nil⟩, by omega, Nat.le_refl _, rfl, B.out⟩
theorem alen_nil (w : World) : Calls Try.prog 16 #[.pointer none] w fun e w' => e = .returned (.int .i64 0) ∧ w' = w := by
  go_enter Try.func16, Try.ntmps16
  go_wp2_with fail
  go_ret
  exact ⟨rfl, rfl⟩
theorem alen_calls (h : Qa w O M v l) : Calls Try.prog 16 #[pt O] w fun e w' => e = .returned (.int .i64 (l.length : Int)) ∧ w' = w := by
  obtain ⟨f, h1, _⟩ := h.ex
  have H1 := hid h1.ag
  clear h h1
  go_enter Try.func16, Try.ntmps16
  go_wp2_with fail
  refine (wlen_calls H1.out).mono ?_
  rintro e w1 ⟨rfl, rfl⟩
  go_wp2_with fail
  go_ret
  exact ⟨rfl, rfl⟩
/-! ### Has -/
def HasOut (l : List Ent) (p : Int) (e : Ending) : Prop := (∃ x, x ∈ l ∧ x.1 = p ∧ e = .returned (.tuple #[va x, .bool true])) ∨ ((∀ x ∈ l, x.1 ≠ p) ∧ e = .returned (.tuple #[va (0, 0, 0), .bool false]))
set_option maxRecDepth 100000 in
set_option maxHeartbeats 1600000 in
theorem ahas_nil (p : Int) (w : World) : Calls Try.prog 12 #[.pointer none, .int .i64 p] w fun e w' => e = .returned (.tuple #[va (0, 0, 0), .bool false]) ∧ Below w.heap.size w w' := by
  have B0 := hid ((Below.refl w.heap.size w).alloc (Nat.le_refl _) (.cells #[.int .i64 0, .int .i64 0, .int .i64 0] 28))
  obtain ⟨W, hW⟩ : ∃ W, w.alloc (.cells #[.int .i64 0, .int .i64 0, .int .i64 0] 28) = W := ⟨_, rfl⟩
  have hr0 : W.heap[w.heap.size]? = some (.cells #[.int .i64 0, .int .i64 0, .int .i64 0] 28 (0, 0)) := by rw [← hW]; exact heap_alloc_new w _
  rw [hW] at B0
  obtain ⟨⟨p0, q0⟩, ⟨u1, v1⟩, ⟨u2, v2⟩, ⟨r0, r1, r2⟩, rb⟩ := ret_e hr0 (.int .i64 0) (.int .i64 0) (.int .i64 0)
  have RB := hid rb
  clear rb
  have BB := hid (below_e B0.out (R := w.heap.size) (Nat.le_refl _) (.int .i64 0) (.int .i64 0) (.int .i64 0))
  clear hr0
  go_enter Try.func12, Try.ntmps12
  go_wp2_with fail
  clear hW
  try go_wp2_with fail
  refine bodyPost_ret (v := .tuple #[.agg #[.int .i64 0, .int .i64 0, .int .i64 0], .bool false]) (by simp [results, Try.results12, go_sem, r0, r1, r2]) rfl ?_
  exact ⟨rfl, BB.out⟩
set_option maxRecDepth 100000 in
set_option maxHeartbeats 3200000 in
theorem ahas_calls (h : Qa w O M v l) (p : Int) (hp : (key p).wf = true) (hl : l.length ≤ 10000) : Calls Try.prog 12 #[pt O, .int .i64 p] w fun e w' => HasOut l p e ∧ Below w.heap.size w w' := by
  obtain ⟨f, h1, h2⟩ := h.ex
  have a0 := h1.ag.below ((Below.refl w.heap.size w).alloc (Nat.le_refl _) (.cells #[.int .i64 0, .int .i64 0, .int .i64 0] 28))
  have B0 := hid ((Below.refl w.heap.size w).alloc (Nat.le_refl _) (.cells #[.int .i64 0, .int .i64 0, .int .i64 0] 28))
  obtain ⟨W, hW⟩ : ∃ W, w.alloc (.cells #[.int .i64 0, .int .i64 0, .int .i64 0] 28) = W := ⟨_, rfl⟩
  have hr0 : W.heap[w.heap.size]? = some (.cells #[.int .i64 0, .int .i64 0, .int .i64 0] 28 (0, 0)) := by rw [← hW]; exact heap_alloc_new w _
  rw [hW] at B0
  rw [hW] at a0
  have c0 := a0.c0
  have c1 := a0.c1
  obtain ⟨c, t, hrun, hc⟩ := a0.look p hp
  have HC := hid hc
  have A0 := hid a0
  have H2 := hid h2
  clear h h1 h2 hc a0
  cases t
  · have HN := hid (show ∀ x ∈ l, x.1 ≠ p from fun x hx => by
      obtain ⟨k, hk, rfl⟩ := (H2.out x).1 hx
      rcases HC.out with ⟨h, _⟩ | ⟨_, h⟩
      · cases h
      · exact h k hk)
    obtain ⟨⟨p0, q0⟩, ⟨u1, v1⟩, ⟨u2, v2⟩, ⟨r0, r1, r2⟩, rb⟩ := ret_e hr0 (.int .i64 0) (.int .i64 0) (.int .i64 0)
    have RB := hid rb
    clear rb
    have BB := hid (below_e B0.out (R := w.heap.size) (Nat.le_refl _) (.int .i64 0) (.int .i64 0) (.int .i64 0))
    clear hr0 HC A0 H2
    go_enter Try.func12, Try.ntmps12
    go_wp2_with fail
    clear hW
    try go_wp2_with fail
    refine bodyPost_ret (v := .tuple #[.agg #[.int .i64 0, .int .i64 0, .int .i64 0], .bool false]) (by simp [results, Try.results12, go_sem, r0, r1, r2]) rfl ?_
    exact ⟨.inr ⟨HN.out, rfl⟩, BB.out⟩
  · obtain ⟨k, rfl, hk, hq⟩ : ∃ k : Nat, c = k ∧ k < l.length ∧ (f k).1 = p := by
      rcases HC.out with ⟨_, h⟩ | ⟨h, _⟩
      · exact h
      · cases h
    obtain ⟨g, cap, rfl, _, _⟩ := A0.out.pos (by omega)
    obtain ⟨d0, d1, d2⟩ := A0.out.at' hk
    have HX := hid (show f k ∈ l ∧ (f k).1 = p from ⟨(H2.out _).2 ⟨k, hk, rfl⟩, hq⟩)
    obtain ⟨⟨x0, x1, x2⟩, hx⟩ : ∃ x, f k = x := ⟨_, rfl⟩
    rw [hx] at d0 d1 d2 HX
    simp only at d0 d1 d2
    have k0 : (0 : Int) ≤ k := by omega
    have k1 : (k : Int) < l.length := by omega
    obtain ⟨⟨p0, q0⟩, ⟨u1, v1⟩, ⟨u2, v2⟩, ⟨r0, r1, r2⟩, rb⟩ := ret_e hr0 (.int .i64 x0) (.int .i64 x1) (.int .i64 x2)
    have RB := hid rb
    clear rb
    have BB := hid (below_e B0.out (R := w.heap.size) (Nat.le_refl _) (.int .i64 x0) (.int .i64 x1) (.int .i64 x2))
    clear hr0 HC A0 H2 hx hq
    go_enter Try.func12, Try.ntmps12
    go_wp2_with fail
    clear hW
    try go_wp2_with fail
    refine bodyPost_ret (v := .tuple #[.agg #[.int .i64 x0, .int .i64 x1, .int .i64 x2], .bool true]) (by simp [results, Try.results12, go_sem, r0, r1, r2]) rfl ?_
    exact ⟨.inl ⟨_, HX.out.1, HX.out.2, rfl⟩, BB.out⟩
end
end Go.Proofs.Ytadkiikakgmpnaa
