/-
  Walks of an agenda: Drop, Take.
-/
import Derived.Test.YtadkiikakgmpnaaQuA2
namespace Go.Proofs.Ytadkiikakgmpnaa
open Go.RowKit Go.Maps Hp
set_option linter.unusedVariables false
section
variable {w w' : World} {O M n : Nat} {v : Value} {f : Nat → Ent} {l : List Ent}
theorem less_is {g : Nat → Ent} {p : Int} {i : Nat} (hd : Dis l) (h2 : ∀ e, e ∈ l ↔ Cont f l.length e) (hn : l.length = n + 1) (hi : i < n + 1) (hp : (f i).1 = p) (h : Less f g n i) :
    (wo l p).length = n ∧ (∀ e, e ∈ wo l p ↔ Cont g n e) := by
  rw [hn] at h2
  refine ⟨?_, fun e => ?_⟩
  · have := wo_len hd (p := p) ⟨f i, (h2 _).2 ⟨i, hi, rfl⟩, hp⟩
    omega
  · rw [wo_mem, h2 e, h.cont e, hp]
theorem less_out {p : Int} {i : Nat} {e : Ending} (hd : Dis l) (h2 : ∀ e, e ∈ l ↔ Cont f l.length e) (hn : l.length = n + 1) (hi : i < n + 1) (hp : (f i).1 = p) (h : RmOut' w O M n i v f e w') :
    e = .returned (.iface 28 (va (f i))) ∧ ∃ v', Qa w' O M v' (wo l p) ∧ v'.ownBlock = v.ownBlock ∧ Mut (own O M v) w w' := by
  obtain ⟨he, v', g, h1, hl, s, m⟩ := h
  obtain ⟨e1, e2⟩ := less_is hd h2 hn hi hp hl
  exact ⟨he, v', ⟨⟨g, by rw [e1]; exact h1, by rw [e1]; exact e2⟩, wo_dis hd p⟩, s, m⟩
def DropOut (w : World) (O M : Nat) (v : Value) (l : List Ent) (p : Int) (e : Ending) (w' : World) : Prop :=
  ∃ t, e = .returned (.bool t) ∧ (t = true ↔ ∃ x ∈ l, x.1 = p) ∧ PutOut w O M v (wo l p) w'
set_option maxRecDepth 100000 in
set_option maxHeartbeats 1600000 in
theorem adrop_nil (p : Int) (w : World) : Calls Try.prog 11 #[.pointer none, .int .i64 p] w fun e w' => e = .returned (.bool false) ∧ w' = w := by
  go_enter Try.func11, Try.ntmps11
  go_wp2_with fail
  go_ret
  exact ⟨rfl, rfl⟩
set_option maxRecDepth 100000 in
set_option maxHeartbeats 3200000 in
theorem adrop_calls (h : Qa w O M v l) (p : Int) (hp : (key p).wf = true) (hl : l.length ≤ 10000) :
    Calls Try.prog 11 #[pt O, .int .i64 p] w fun e w' => DropOut w O M v l p e w' := by
  obtain ⟨f, h1, h2⟩ := h.ex
  have c1 := h1.ag.c1
  obtain ⟨c, t, hrun, hc⟩ := h1.ag.look p hp
  have HC := hid hc
  have H2 := hid h2
  have HQ := hid h
  have H1 := hid h1
  clear h h1 h2 hc
  cases t
  · have HN := hid (show ∀ x ∈ l, x.1 ≠ p from fun x hx => by
      obtain ⟨k, hk, rfl⟩ := (H2.out x).1 hx
      rcases HC.out with ⟨h, _⟩ | ⟨_, h⟩
      · cases h
      · exact h k hk)
    have FN := hid (show PutOut w O M v (wo l p) w from by rw [wo_none HN.out]; exact PutOut.below HQ.out (Below.refl _ _))
    go_enter Try.func11, Try.ntmps11
    go_wp2_with fail
    go_ret
    exact ⟨_, rfl, ⟨fun h => (by cases h), fun ⟨x, hx, hq⟩ => absurd hq (HN.out x hx)⟩, FN.out⟩
  · obtain ⟨k, rfl, hk, hq⟩ : ∃ k : Nat, c = k ∧ k < l.length ∧ (f k).1 = p := by
      rcases HC.out with ⟨_, h⟩ | ⟨h, _⟩
      · exact h
      · cases h
    obtain ⟨n, hn⟩ : ∃ n, l.length = n + 1 := ⟨l.length - 1, by omega⟩
    have HP := hid hq
    have HN := hid hn
    have HX := hid (show ∃ x ∈ l, x.1 = p from ⟨f k, (H2.out _).2 ⟨k, hk, rfl⟩, hq⟩)
    have H3 := hid (show Hq w O v M (n + 1) f from by rw [← hn]; exact H1.out)
    have hk' : k < n + 1 := by omega
    have hn' : n ≤ 10000 := by omega
    clear hq hn hk hl HC H1
    go_enter Try.func11, Try.ntmps11
    go_wp2_with fail
    refine (hremove_calls H3.out hk' hn').mono ?_
    rintro e w1 o1
    obtain ⟨he, v1, q1, s1, m1⟩ := less_out HQ.out.dis H2.out HN.out hk' HP.out o1
    subst he
    have FN := hid (show PutOut w O M v (wo l p) w1 from ⟨v1, q1, fun k e => .inl (s1.symm.trans e), m1⟩)
    clear o1 q1 s1 m1
    go_wp2_with fail
    go_ret
    exact ⟨_, rfl, ⟨fun _ => HX.out, fun _ => rfl⟩, FN.out⟩
def TakeOut (w : World) (O M : Nat) (v : Value) (l : List Ent) (e : Ending) (w' : World) : Prop :=
  (l = [] ∧ e = .returned (.tuple #[va (0, 0, 0), .bool false]) ∧ PutOut w O M v [] w') ∨ (∃ x, x ∈ l ∧ (∀ y ∈ l, ¬ lt y x) ∧ e = .returned (.tuple #[va x, .bool true]) ∧ PutOut w O M v (wo l x.1) w')
set_option maxRecDepth 100000 in
set_option maxHeartbeats 3200000 in
theorem atake_nil (w : World) : Calls Try.prog 14 #[.pointer none] w fun e w' => e = .returned (.tuple #[va (0, 0, 0), .bool false]) ∧ Below w.heap.size w w' := by
  have B0 := hid ((Below.refl w.heap.size w).alloc (Nat.le_refl _) (.cells #[.int .i64 0, .int .i64 0, .int .i64 0] 28))
  obtain ⟨W, hW⟩ : ∃ W, w.alloc (.cells #[.int .i64 0, .int .i64 0, .int .i64 0] 28) = W := ⟨_, rfl⟩
  have hr0 : W.heap[w.heap.size]? = some (.cells #[.int .i64 0, .int .i64 0, .int .i64 0] 28 (0, 0)) := by rw [← hW]; exact heap_alloc_new w _
  rw [hW] at B0
  obtain ⟨⟨p0, q0⟩, ⟨u1, v1⟩, ⟨u2, v2⟩, ⟨r0, r1, r2⟩, rb⟩ := ret_e hr0 (.int .i64 0) (.int .i64 0) (.int .i64 0)
  clear rb
  have BB := hid (below_e B0.out (R := w.heap.size) (Nat.le_refl _) (.int .i64 0) (.int .i64 0) (.int .i64 0))
  clear hr0
  go_enter Try.func14, Try.ntmps14
  go_wp2_with fail
  refine (alen_nil _).mono ?_
  rintro e w1 ⟨rfl, hw1⟩
  subst hw1
  go_wp2_with fail
  refine bodyPost_ret (v := .tuple #[.agg #[.int .i64 0, .int .i64 0, .int .i64 0], .bool false]) (by simp [results, Try.results14, go_sem, r0, r1, r2]) rfl ?_
  exact ⟨rfl, BB.out⟩
theorem take_fin {w w1 : World} (hL : ∀ k, own O M v k → k < w.heap.size) {W : World} (hB : Below w.heap.size w W) {v4 : Value} (q : Qa w1 O M v4 l) (s : v4.ownBlock = v.ownBlock) (m : Mut (own O M v) W w1) (a b c : Value) :
    PutOut w O M v l (((w1.setCell ⟨w.heap.size, 0, none⟩ a).setCell ⟨w.heap.size, 1, none⟩ b).setCell ⟨w.heap.size, 2, none⟩ c) := by
  have me := mut_e w1 w.heap.size a b c (S := fun k => k = w.heap.size) rfl
  exact ⟨v4, q.kept me (fun k hk e => by
    have h : own O M v k := by rw [← own_same (O := O) (M := M) s]; exact hk
    have := hL k h
    omega), fun k e => .inl (s.symm.trans e), ((Mut.ofBelow hB _).trans m (fun _ _ e => e)).trans me (fun k hk e => by omega)⟩
set_option maxRecDepth 100000 in
set_option maxHeartbeats 3200000 in
theorem atake_calls (h : Qa w O M v l) (hl : l.length ≤ 10000) :
    Calls Try.prog 14 #[pt O] w fun e w' => TakeOut w O M v l e w' := by
  obtain ⟨f, h1, h2⟩ := h.ex
  have HL := hid (show ∀ k, own O M v k → k < w.heap.size from fun k hk => h.lt hk)
  have B0 := hid ((Below.refl w.heap.size w).alloc (Nat.le_refl _) (.cells #[.int .i64 0, .int .i64 0, .int .i64 0] 28))
  obtain ⟨W, hW⟩ : ∃ W, w.alloc (.cells #[.int .i64 0, .int .i64 0, .int .i64 0] 28) = W := ⟨_, rfl⟩
  have hr0 : W.heap[w.heap.size]? = some (.cells #[.int .i64 0, .int .i64 0, .int .i64 0] 28 (0, 0)) := by rw [← hW]; exact heap_alloc_new w _
  rw [hW] at B0
  have HQ := hid (h.below (by rw [← hW]; exact (Below.refl w.heap.size w).alloc (Nat.le_refl _) _) : Qa W O M v l)
  have H1 := hid (h1.below (by rw [← hW]; exact (Below.refl w.heap.size w).alloc (Nat.le_refl _) _) : Hq W O v M l.length f)
  have H2 := hid h2
  have H0 := hid h
  have HR := hid hr0
  clear h h1 h2
  obtain ⟨N, hN⟩ : ∃ N : Int, N = l.length := ⟨_, rfl⟩
  by_cases h0 : l.length = 0
  · have hl0 : l = [] := List.eq_nil_of_length_eq_zero h0
    have hN0 : N = 0 := by omega
    obtain ⟨⟨p0, q0⟩, ⟨u1, v1⟩, ⟨u2, v2⟩, ⟨r0, r1, r2⟩, rb⟩ := ret_e hr0 (.int .i64 0) (.int .i64 0) (.int .i64 0)
    clear rb
    have FN := hid (show PutOut w O M v [] _ from take_fin HL.out B0.out (hl0 ▸ HQ.out) rfl (Mut.refl _ W) (.int .i64 0) (.int .i64 0) (.int .i64 0))
    have HE := hid hl0
    clear hr0 h0 hl0
    go_enter Try.func14, Try.ntmps14
    go_wp2_with fail
    clear hW
    refine (alen_calls HQ.out).mono ?_
    rintro e w1 ⟨rfl, hw1⟩
    subst hw1
    rw [← hN, hN0]
    clear hN hN0
    go_wp2_with fail
    refine bodyPost_ret (v := .tuple #[.agg #[.int .i64 0, .int .i64 0, .int .i64 0], .bool false]) (by simp [results, Try.results14, go_sem, r0, r1, r2]) rfl ?_
    exact .inl ⟨HE.out, rfl, FN.out⟩
  · obtain ⟨n, hn⟩ : ∃ n, l.length = n + 1 := ⟨l.length - 1, by omega⟩
    have t0 : (N == 0) = false := by simp; omega
    have hn' : n ≤ 10000 := by omega
    have HN := hid hn
    have H3 := hid (show Hq W O v M (n + 1) f from by rw [← hn]; exact H1.out)
    have HX := hid (show f 0 ∈ l ∧ (∀ y ∈ l, ¬ lt y (f 0)) from ⟨(H2.out _).2 ⟨0, by omega, rfl⟩, fun y hy => by
      obtain ⟨k, hk, rfl⟩ := (H2.out y).1 hy
      exact H1.out.hp.root lt_ord k hk⟩)
    clear hn H1 hr0 h0
    have HN2 := hid hN
    go_enter Try.func14, Try.ntmps14
    go_wp2_with fail
    clear hW
    refine (alen_calls HQ.out).mono ?_
    rintro e w1 ⟨rfl, hw1⟩
    subst hw1
    rw [← hN]
    clear hN HN2
    go_wp2_with fail
    refine (hpop_calls H3.out hn').mono ?_
    rintro e w2 o2
    obtain ⟨he, v2, q2, s2, m2⟩ := less_out HQ.out.dis H2.out HN.out (by omega) rfl o2
    subst he
    have hr2 : w2.heap[w.heap.size]? = some (.cells #[.int .i64 0, .int .i64 0, .int .i64 0] 28 (0, 0)) := (m2.block _ (Array.getElem?_eq_some_iff.1 HR.out).1 (fun e => by have := HL.out _ e; omega)).trans HR.out
    have Q2 := hid q2
    have S2 := hid s2
    have M2 := hid m2
    clear o2 q2 s2 m2
    obtain ⟨⟨x0, x1, x2⟩, hx⟩ : ∃ x, f 0 = x := ⟨_, rfl⟩
    rw [hx] at HX Q2 ⊢
    clear hx
    unfold va
    have hta := ta_e x0 x1 x2
    obtain ⟨⟨p0, q0⟩, ⟨u1, v1⟩, ⟨u2, v2⟩, ⟨r0, r1, r2⟩, rb⟩ := ret_e hr2 (.int .i64 x0) (.int .i64 x1) (.int .i64 x2)
    clear rb
    have FN := hid (show PutOut w O M v (wo l x0) _ from take_fin HL.out B0.out Q2.out S2.out M2.out (.int .i64 x0) (.int .i64 x1) (.int .i64 x2))
    clear hr2
    go_wp2_with fail
    refine bodyPost_ret (v := .tuple #[.agg #[.int .i64 x0, .int .i64 x1, .int .i64 x2], .bool true]) (by simp [results, Try.results14, go_sem, r0, r1, r2]) rfl ?_
    exact .inr ⟨_, HX.out.1, HX.out.2, rfl, FN.out⟩
end
end Go.Proofs.Ytadkiikakgmpnaa
