/-
  Walks of an agenda: Put, Drop, Take.
-/
import Derived.Test.YtadkiikakgmpnaaQuA
namespace Go.Proofs.Ytadkiikakgmpnaa
open Go.RowKit Go.Maps Hp
set_option linter.unusedVariables false
section
variable {w w' : World} {O M n : Nat} {v : Value} {f : Nat → Ent} {l : List Ent}
/-- An agenda behind a call. -/
def PutOut (w : World) (O M : Nat) (v : Value) (l : List Ent) (w' : World) : Prop := ∃ v', Qa w' O M v' l ∧ Same w v v' ∧ Mut (own O M v) w w'
theorem PutOut.below (h : Qa w O M v l) (hb : Below w.heap.size w w') : PutOut w O M v l w' := ⟨v, h.below hb, fun k e => .inl e, Mut.ofBelow hb _⟩
theorem PutOut.before {w0 : World} (hb : Below w0.heap.size w0 w) (hv : ∀ k, own O M v k → k < w0.heap.size) (h : PutOut w O M v l w') : PutOut w0 O M v l w' := by
  obtain ⟨v', h1, h2, h3⟩ := h
  exact ⟨v', h1, fun k e => (h2 k e).imp id (fun e => Nat.le_trans hb.size e), (Mut.ofBelow hb _).trans h3 (fun _ _ e => e)⟩
theorem PutOut.after {w2 : World} (h : PutOut w O M v l w') {S : Nat → Prop} (hm : Mut S w' w2) (hS : ∀ k, S k → w.heap.size ≤ k) (hS2 : ∀ v' k, Same w v v' → own O M v' k → Qa w' O M v' l → ¬ S k) : PutOut w O M v l w2 := by
  obtain ⟨v', h1, h2, h3⟩ := h
  exact ⟨v', h1.kept hm (fun k hk => hS2 v' k h2 hk h1), h2, h3.trans hm (fun k hk e => by have := hS k e; omega)⟩
theorem put_new (x : Ent) {g : Nat → Ent} (hd : Dis l) (h2 : ∀ e, e ∈ l ↔ Cont f l.length e) (hno : ∀ k, k < l.length → (f k).1 ≠ x.1) (hg : ∀ e, Cont g (l.length + 1) e ↔ (Cont f l.length e ∨ e = x)) :
    (put l x).length = l.length + 1 ∧ (∀ e, e ∈ put l x ↔ Cont g (l.length + 1) e) ∧ Dis (put l x) := by
  have hw : wo l x.1 = l := wo_none (fun e he hq => by
    obtain ⟨k, hk, rfl⟩ := (h2 e).1 he
    exact hno k hk hq)
  refine ⟨by unfold put; rw [hw]; simp, fun e => ?_, put_dis hd x⟩
  unfold put
  rw [hw, hg e, ← h2 e]
  simp
theorem put_old (x : Ent) {i : Nat} {g : Nat → Ent} (hd : Dis l) (h2 : ∀ e, e ∈ l ↔ Cont f l.length e) (hI : Inj (fun e : Ent => e.1) f l.length) (hi : i < l.length) (hx : (f i).1 = x.1) (hg : ∀ e, Cont g l.length e ↔ Cont (ch f i x) l.length e) :
    (put l x).length = l.length ∧ (∀ e, e ∈ put l x ↔ Cont g l.length e) ∧ Dis (put l x) := by
  refine ⟨?_, fun e => ?_, put_dis hd x⟩
  · have := wo_len hd (p := x.1) ⟨f i, (h2 _).2 ⟨i, hi, rfl⟩, hx⟩
    unfold put
    simp
    omega
  · rw [hg e]
    unfold put
    rw [List.mem_append, wo_mem, h2 e, List.mem_singleton]
    constructor
    · rintro (⟨⟨k, hk, rfl⟩, hne⟩ | rfl)
      · exact ⟨k, hk, ch_ne (fun h => hne (by rw [h, hx]))⟩
      · exact ⟨i, hi, ch_eq f i e⟩
    · rintro ⟨k, hk, rfl⟩
      by_cases hki : k = i
      · rw [hki, ch_eq]; exact .inr rfl
      · rw [ch_ne hki]
        exact .inl ⟨⟨k, hk, rfl⟩, fun h => hki (hI k i hk hi (h.trans hx.symm))⟩
theorem Ag.turn (h : Ag w O v M n f) {g cap i : Nat} (hv : v = .slice (some ⟨g, 0, none⟩) n cap) (hi : i < n) (x : Ent) (hx : (f i).1 = x.1) {W : World} (hW : W = set3 w g (i * 3) x) : Ag W O v M n (ch f i x) ∧ Mut (own O M v) w W := by
  subst hW
  subst hv
  obtain ⟨hgO, hgM⟩ := h.neg (g := g) rfl
  have m := set3_mut w g (i * 3) x (S := fun k => k = g) rfl
  have key : ∀ k, (f k).1 = (ch f i x k).1 := fun k => by
    by_cases hk : k = i
    · rw [hk, ch_eq, hx]
    · rw [ch_ne hk]
  obtain ⟨D, h1, h2, h3⟩ := h.map
  exact ⟨⟨(m.block O h.ltO (fun e => hgO e.symm)).trans h.blk, set3_own h.row x hi, ⟨D, map_mut h1 m (fun e => hgM e.symm), h2, h3.congr (fun k _ => key k)⟩,
    fun a b ha hb hq => h.inj a b ha hb (by show (f a).1 = (f b).1; rw [key a, key b]; exact hq), fun k hk => by rw [← key k]; exact h.wf k hk⟩, m.mono (fun k e => .inr (.inr (by rw [e]; rfl)))⟩
theorem put_kept {w w1 w3 : World} {O M n : Nat} {v : Value} {f : Nat → Ent} {x : Ent} {t : TypeId} {a b c : Value} (hK : w1.heap[w.heap.size]? = some (.cells #[a, b, c] t (0, 0))) (hL : ∀ k, own O M v k → k < w.heap.size) (hB : Below w.heap.size w w1) (h : PsOut w1 O M n v f x w3) :
    w3.cell? ⟨w.heap.size, 0, none⟩ = some a ∧ w3.cell? ⟨w.heap.size, 1, none⟩ = some b ∧ w3.cell? ⟨w.heap.size, 2, none⟩ = some c := by
  obtain ⟨v', g, _, _, _, m⟩ := h
  have h1 : w3.heap[w.heap.size]? = some (.cells #[a, b, c] t (0, 0)) := (m.block _ (Array.getElem?_eq_some_iff.1 hK).1 (fun e => by have := hL _ e; omega)).trans hK
  exact ⟨by simp only [World.cell?, h1]; rfl, by simp only [World.cell?, h1]; rfl, by simp only [World.cell?, h1]; rfl⟩
theorem put_one {w w1 w3 : World} {x : Ent} (hB : Below w.heap.size w w1) (hL : ∀ k, own O M v k → k < w.heap.size) (hd : Dis l) (h2 : ∀ e, e ∈ l ↔ Cont f l.length e) (hno : ∀ k, k < l.length → (f k).1 ≠ x.1)
    (h : PsOut w1 O M l.length v f x w3) : PutOut w O M v (put l x) w3 := by
  obtain ⟨v', g, h1, hg, s, m⟩ := h
  obtain ⟨e1, e2, e3⟩ := put_new x hd h2 hno hg
  exact PutOut.before hB hL ⟨v', ⟨⟨g, by rw [e1]; exact h1, by rw [e1]; exact e2⟩, e3⟩, s, m⟩
theorem put_two {w w1 w2 w3 : World} {x : Ent} {i : Nat} (hB : Below w.heap.size w w1) (hL : ∀ k, own O M v k → k < w.heap.size) (hd : Dis l) (h2 : ∀ e, e ∈ l ↔ Cont f l.length e) (hI : Inj (fun e : Ent => e.1) f l.length) (hi : i < l.length) (hx : (f i).1 = x.1)
    (m2 : Mut (own O M v) w1 w2) (h : FxOut w2 O M l.length v (ch f i x) w3) : PutOut w O M v (put l x) w3 := by
  obtain ⟨g, h1, hg, m⟩ := h
  obtain ⟨e1, e2, e3⟩ := put_old x hd h2 hI hi hx hg
  exact PutOut.before hB hL ⟨v, ⟨⟨g, by rw [e1]; exact h1, by rw [e1]; exact e2⟩, e3⟩, fun k e => .inl e, m2.trans m (fun _ _ e => e)⟩
set_option maxRecDepth 100000 in
set_option maxHeartbeats 3200000 in
theorem aput_nil (x : Ent) (w : World) : Calls Try.prog 9 #[.pointer none, va x] w fun e w' => e = .returned (.tuple #[]) ∧ Below w.heap.size w w' := by
  obtain ⟨x0, x1, x2⟩ := x
  have B0 := hid ((Below.refl w.heap.size w).alloc (Nat.le_refl _) (.cells #[.int .i64 x0, .int .i64 x1, .int .i64 x2] 28))
  unfold va
  go_enter Try.func9, Try.ntmps9
  go_wp2_with fail
  refine bodyPost_ret (v := .tuple #[]) (by simp [results, Try.results9, go_sem]) rfl ?_
  exact ⟨rfl, B0.out⟩
set_option maxRecDepth 100000 in
set_option maxHeartbeats 3200000 in
theorem aput_calls (h : Qa w O M v l) (x : Ent) (hx : (key x.1).wf = true) (hl : l.length < 10000) :
    Calls Try.prog 9 #[pt O, va x] w fun e w' => e = .returned (.tuple #[]) ∧ PutOut w O M v (put l x) w' := by
  obtain ⟨f, h1, h2⟩ := h.ex
  obtain ⟨x0, x1, x2⟩ := x
  have hlt : ∀ k, own O M v k → k < w.heap.size := fun k hk => h.lt hk
  have B0 := hid ((Below.refl w.heap.size w).alloc (Nat.le_refl _) (.cells #[.int .i64 x0, .int .i64 x1, .int .i64 x2] 28))
  have a0 := h1.ag.below B0.out
  obtain ⟨W, hW⟩ : ∃ W, w.alloc (.cells #[.int .i64 x0, .int .i64 x1, .int .i64 x2] 28) = W := ⟨_, rfl⟩
  have hr0 : W.heap[w.heap.size]? = some (.cells #[.int .i64 x0, .int .i64 x1, .int .i64 x2] 28 (0, 0)) := by rw [← hW]; exact heap_alloc_new w _
  rw [hW] at a0 B0
  have c0 := a0.c0
  have c1 := a0.c1
  have n0 : W.cell? ⟨w.heap.size, 0, none⟩ = some (.int .i64 x0) := by simp [World.cell?, hr0]
  have n1 : W.cell? ⟨w.heap.size, 1, none⟩ = some (.int .i64 x1) := by simp [World.cell?, hr0]
  have n2 : W.cell? ⟨w.heap.size, 2, none⟩ = some (.int .i64 x2) := by simp [World.cell?, hr0]
  obtain ⟨c, t, hrun, hc⟩ := a0.drew.look x0 hx
  have HC := hid hc
  have A0 := hid a0
  have H2 := hid h2
  have HH := hid h1.hp
  have HD := hid h.dis
  have HL := hid hlt
  have HK := hid hr0
  clear h h1 h2 hc a0 hlt hr0
  unfold va
  go_enter Try.func9, Try.ntmps9
  go_wp2_with fail
  clear hW
  go_region
  have A1 := hid A0.out.drew
  have B1 := hid B0.out.drew
  have N1 := hid (show W.drew.cell? ⟨w.heap.size, 0, none⟩ = some (.int .i64 x0) ∧ W.drew.cell? ⟨w.heap.size, 1, none⟩ = some (.int .i64 x1) ∧ W.drew.cell? ⟨w.heap.size, 2, none⟩ = some (.int .i64 x2) ∧ W.drew.cell? ⟨O, 0, none⟩ = some v from ⟨n0, n1, n2, c0⟩)
  have K1 := hid (show W.drew.heap[w.heap.size]? = some (.cells #[.int .i64 x0, .int .i64 x1, .int .i64 x2] 28 (0, 0)) from HK.out)
  clear n0 n1 n2 c0 c1 hrun A0 B0 HK
  generalize W.drew = W1 at *
  clear W
  obtain ⟨n0, n1, n2, c0⟩ := N1.out
  cases t
  · have HN := hid (show ∀ k, k < l.length → (f k).1 ≠ x0 from by
      rcases HC.out with ⟨h, _⟩ | ⟨_, h⟩
      · cases h
      · exact h)
    clear HC c0
    have HW := hid hx
    clear hx
    go_wp2_with fail
    go_region_held3 (fun w' => w'.cell? ⟨w.heap.size, 0, none⟩ = some (.int .i64 x0) ∧ w'.cell? ⟨w.heap.size, 1, none⟩ = some (.int .i64 x1) ∧ w'.cell? ⟨w.heap.size, 2, none⟩ = some (.int .i64 x2)) (first | exact ⟨n0, n1, n2⟩ | exact N3.out | go_keep) (first | (go_at_call 17; refine (hpush_calls (w := W1) (x := (x0, x1, x2)) ⟨A1.out, HH.out⟩ HW.out HN.out (by omega)).mono ?_; rintro e w3 ⟨rfl, o3⟩; have O3 := hid o3; have N3 := hid (put_kept (w1 := W1) K1.out HL.out B1.out o3); clear o3) | (go_at_call 17; refine (hpush_calls (w := W1.drew) (x := (x0, x1, x2)) ⟨A1.out.drew, HH.out⟩ HW.out HN.out (by omega)).mono ?_; rintro e w3 ⟨rfl, o3⟩; have O3 := hid o3; have N3 := hid (put_kept (w1 := W1.drew) K1.out HL.out B1.out.drew o3); clear o3))
    have FN := hid (show PutOut w O M v (put l (x0, x1, x2)) w3 from by first | exact put_one B1.out HL.out HD.out H2.out HN.out O3.out | exact put_one B1.out.drew HL.out HD.out H2.out HN.out O3.out)
    clear O3 N3 HN
    go_wp2_with fail
    refine bodyPost_ret (v := .tuple #[]) (by simp [results, Try.results9, go_sem]) rfl ?_
    exact ⟨rfl, FN.out⟩
  · obtain ⟨k, rfl, hk, hq⟩ : ∃ k : Nat, c = k ∧ k < l.length ∧ (f k).1 = x0 := by
      rcases HC.out with ⟨_, h⟩ | ⟨h, _⟩
      · exact h
      · cases h
    obtain ⟨g, cap, rfl, _, _⟩ := A1.out.pos (by omega)
    have k0 : (0 : Int) ≤ k := by omega
    have k1 : (k : Int) < l.length := by omega
    have HQ := hid hq
    obtain ⟨a0, ⟨u0, b0⟩, a1, ⟨u1, b1⟩, a2, ⟨u2, b2⟩, _⟩ := st3 A1.out.row x0 x1 x2 hk
    obtain ⟨W2, hW2⟩ : ∃ W, (set3 W1 g (k * 3) (x0, x1, x2)).drew = W := ⟨_, rfl⟩
    obtain ⟨a4, m4⟩ := A1.out.turn rfl hk (x0, x1, x2) hq rfl
    have a4 := a4.drew
    have m4 := m4.drew
    rw [hW2] at a4 m4
    have A4 := hid a4
    have M4 := hid m4
    clear HC hq a4 m4
    go_wp2_with fail
    go_region
    show Exit.then _ _ Exit.normal _ (set3 W1 g (k * 3) (x0, x1, x2)).drew
    rw [hW2]
    clear hW2 a0 a1 a2 b0 b1 b2 n0 n1 n2 c0
    go_wp2_with fail
    refine (hfix_calls A4.out hk (fix_inv lt_ord HH.out hk (x0, x1, x2)) (by omega)).mono ?_
    rintro e w5 ⟨rfl, o5⟩
    have FN := hid (put_two B1.out HL.out HD.out H2.out A1.out.inj hk HQ.out M4.out o5)
    clear o5
    go_wp2_with fail
    go_end0
    exact ⟨rfl, FN.out⟩
end
end Go.Proofs.Ytadkiikakgmpnaa
