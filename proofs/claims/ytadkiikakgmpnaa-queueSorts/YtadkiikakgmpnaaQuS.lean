/-
  Walk of the reference's Has; agendas beside what lies apart from them; the chapter's example.
-/
import Derived.Test.YtadkiikakgmpnaaQuR
import Derived.Test.YtadkiikakgmpnaaQuA3
namespace Go.Proofs.Ytadkiikakgmpnaa
open Go.RowKit Go.Maps Hp
set_option linter.unusedVariables false
set_option maxRecDepth 100000 in
set_option maxHeartbeats 3200000 in
theorem rhas_calls {w : World} {a : Option Addr} {n c : Nat} {l : List Ent} (h : Er w a n c l) (p : Int) (hn : n ≤ 10000) :
    Calls Try.prog 13 #[.slice a n c, .int .i64 p] w fun e w' => HasOut l p e ∧ Below w.heap.size w w' := by
  have B0 := hid ((Below.refl w.heap.size w).alloc (Nat.le_refl _) (.cells #[.int .i64 0, .int .i64 0, .int .i64 0] 28))
  have h0 := heap_alloc_new w (.cells #[.int .i64 0, .int .i64 0, .int .i64 0] 28)
  have R0 := hid h0
  have HH := hid h
  have HL := hid h.len
  clear h h0
  go_enter Try.func13, Try.ntmps13
  go_wp2_with fail
  go_loopg [9] n (fun r iv wr => ∃ (j : Nat), r = n - j ∧ iv = .int .i64 (j : Int) ∧ j ≤ n ∧ Hid (∀ q, q < j → (et l q).1 ≠ p) ∧ Hid (wr.heap[w.heap.size]? = some (.cells #[.int .i64 0, .int .i64 0, .int .i64 0] 28 (0, 0))) ∧ Hid (Below w.heap.size w wr))
  case atStart => exact ⟨0, rfl, rfl, by omega, hid (fun q hq => by omega), R0, B0⟩
  case round =>
    obtain ⟨j, rfl, rfl, hj, HT, HR, HB⟩ := hrel
    by_cases hlt : j < n
    · have k1 : (j : Int) < n := by omega
      have k0 : (0 : Int) ≤ j := by omega
      have e2 : IntKind.i64.wrap ((j : Int) + 1) = j + 1 := i64_in (by omega) (by omega)
      obtain ⟨b, off, rfl, hbl, d0, d1, d2⟩ := (HH.out.below HB.out).at' hlt
      have HM := hid (show et l j ∈ l from et_mem (by rw [HL.out]; exact hlt))
      have HN := hid (show (et l j).1 ≠ p → ∀ q, q < j + 1 → (et l q).1 ≠ p from fun h q hq => by
        rcases Nat.lt_succ_iff_lt_or_eq.1 hq with h1 | rfl
        · exact HT.out q h1
        · exact h)
      obtain ⟨⟨x0, x1, x2⟩, hx⟩ : ∃ x, et l j = x := ⟨_, rfl⟩
      rw [hx] at d0 d1 d2 HM HN
      simp only at d0 d1 d2
      clear hx
      by_cases hp : x0 = p
      · have t0 : (x0 == p) = true := by simpa using hp
        have HP := hid hp
        have hr := HR.out
        obtain ⟨⟨p0, q0⟩, ⟨u1, v1⟩, ⟨u2, v2⟩, ⟨r0, r1, r2⟩, rb⟩ := ret_e hr (.int .i64 x0) (.int .i64 x1) (.int .i64 x2)
        have BB := hid (below_e HB.out (R := w.heap.size) (Nat.le_refl _) (.int .i64 x0) (.int .i64 x1) (.int .i64 x2))
        clear rb hr hp
        go_wp2_with fail
        refine bodyPost_ret (v := .tuple #[.agg #[.int .i64 x0, .int .i64 x1, .int .i64 x2], .bool true]) (by simp [results, Try.results13, go_sem, r0, r1, r2]) rfl ?_
        exact ⟨.inl ⟨_, HM.out, HP.out, rfl⟩, BB.out⟩
      · have t0 : (x0 == p) = false := by simpa using hp
        have HT2 := hid (HN.out hp)
        clear hp
        go_wp2_with fail
        go_roundg (n - (j + 1))
        case measure => omega
        case rel => exact ⟨j + 1, rfl, by go_num, by omega, HT2, HR, HB⟩
    · have k1 : ¬ ((j : Int) < n) := by omega
      have HF := hid (show ∀ x ∈ l, x.1 ≠ p from fun x hx => by
        obtain ⟨i, hi, rfl⟩ := mem_et hx
        exact HT.out i (by rw [HL.out] at hi; omega))
      have hr := HR.out
      obtain ⟨⟨p0, q0⟩, ⟨u1, v1⟩, ⟨u2, v2⟩, ⟨r0, r1, r2⟩, rb⟩ := ret_e hr (.int .i64 0) (.int .i64 0) (.int .i64 0)
      have BB := hid (below_e HB.out (R := w.heap.size) (Nat.le_refl _) (.int .i64 0) (.int .i64 0) (.int .i64 0))
      clear rb hr
      go_wp2_with fail
      refine bodyPost_ret (v := .tuple #[.agg #[.int .i64 0, .int .i64 0, .int .i64 0], .bool false]) (by simp [results, Try.results13, go_sem, r0, r1, r2]) rfl ?_
      exact ⟨.inr ⟨HF.out, rfl⟩, BB.out⟩
/-! ### An agenda beside what lies apart from it -/
structure Sq (w0 w : World) (O M : Nat) (v : Value) (l : List Ent) (X : Nat → Prop) : Prop where
  q : Qa w O M v l
  base : ∀ k, own O M v k → w0.heap.size ≤ k
  below : Below w0.heap.size w0 w
  apart : ∀ k, X k → k < w.heap.size ∧ ¬ own O M v k
section
variable {w0 w w' : World} {O M : Nat} {v v' : Value} {l l' : List Ent} {X X' : Nat → Prop}
/-- What a call upon it leaves. -/
def SOut (w0 : World) (O M : Nat) (v : Value) (l : List Ent) (X : Nat → Prop) (w w' : World) : Prop := ∃ v', Sq w0 w' O M v' l X ∧ (∀ k, X k → w'.heap[k]? = w.heap[k]?) ∧ Mut (own O M v) w w'
theorem own_step (h : Same w v v') {k : Nat} (hk : own O M v' k) : own O M v k ∨ w.heap.size ≤ k := by
  rcases hk with h1 | h1 | h1
  · exact .inl (.inl h1)
  · exact .inl (.inr (.inl h1))
  · exact (h k h1).imp (fun e => .inr (.inr e)) id
theorem Sq.step (h : Sq w0 w O M v l X) (o : PutOut w O M v l' w') : SOut w0 O M v l' X w w' := by
  obtain ⟨v', q, s, m⟩ := o
  refine ⟨v', ⟨q, fun k hk => ?_, ?_, fun k hk => ?_⟩, fun k hk => m.block k (h.apart k hk).1 (h.apart k hk).2, m⟩
  · rcases own_step s hk with h1 | h1
    · exact h.base k h1
    · exact Nat.le_trans h.below.size h1
  · exact h.below.trans (m.below h.below.size h.base)
  · obtain ⟨h1, h2⟩ := h.apart k hk
    refine ⟨Nat.lt_of_lt_of_le h1 m.size, fun e => ?_⟩
    rcases own_step s e with h3 | h3
    · exact h2 h3
    · omega
theorem Sq.grow (h : Sq w0 w O M v l X) (hb : Below w.heap.size w w') (hX : ∀ k, X' k → X k ∨ (w.heap.size ≤ k ∧ k < w'.heap.size)) : Sq w0 w' O M v l X' :=
  ⟨h.q.below hb, h.base, h.below.trans (hb.mono h.below.size), fun k hk => by
    rcases hX k hk with h1 | ⟨h1, h2⟩
    · exact ⟨Nat.lt_of_lt_of_le (h.apart k h1).1 hb.size, (h.apart k h1).2⟩
    · exact ⟨h2, fun e => by have := h.q.lt e; omega⟩⟩
theorem Sq.fewer (h : Sq w0 w O M v l X) (hX : ∀ k, X' k → X k) : Sq w0 w O M v l X' := ⟨h.q, h.base, h.below, fun k hk => h.apart k (hX k hk)⟩
theorem Sq.keep (h : Sq w0 w O M v l X) {S : Nat → Prop} (hm : Mut S w w') (hS : ∀ k, S k → X k) (hb : ∀ k, S k → w0.heap.size ≤ k) : Sq w0 w' O M v l X :=
  ⟨h.q.kept hm (fun k hk e => (h.apart k (hS k e)).2 hk), h.base, h.below.trans (hm.below h.below.size hb), fun k hk => ⟨Nat.lt_of_lt_of_le (h.apart k hk).1 hm.size, (h.apart k hk).2⟩⟩
theorem snew (w0 w : World) (hb : Below w0.heap.size w0 w) : Calls Try.prog 8 #[] w fun e w' => ∃ O M v, e = .returned (pt O) ∧ Sq w0 w' O M v [] (fun _ => False) ∧ w.heap.size ≤ O ∧ w.heap.size ≤ M ∧ v.ownBlock = none ∧ Below w.heap.size w w' := by
  refine (new_calls w).mono ?_
  rintro e w' ⟨O, M, v, he, q, hO, hM, hv, b⟩
  refine ⟨O, M, v, he, ⟨q, ?_, hb.trans (b.mono hb.size), fun k e => e.elim⟩, hO, hM, hv, b⟩
  have := hb.size
  rintro k (rfl | rfl | e)
  · omega
  · omega
  · rw [hv] at e; cases e
theorem sput (h : Sq w0 w O M v l X) (x : Ent) (hx : (key x.1).wf = true) (hl : l.length < 10000) : Calls Try.prog 9 #[pt O, va x] w fun e w' => e = .returned (.tuple #[]) ∧ SOut w0 O M v (put l x) X w w' :=
  (aput_calls h.q x hx hl).mono fun e w' ⟨he, o⟩ => ⟨he, h.step o⟩
def STake (w0 : World) (O M : Nat) (v : Value) (l : List Ent) (X : Nat → Prop) (w : World) (e : Ending) (w' : World) : Prop :=
  (l = [] ∧ e = .returned (.tuple #[va (0, 0, 0), .bool false]) ∧ SOut w0 O M v [] X w w') ∨ (∃ x, x ∈ l ∧ (∀ y ∈ l, ¬ lt y x) ∧ e = .returned (.tuple #[va x, .bool true]) ∧ SOut w0 O M v (wo l x.1) X w w')
theorem stake (h : Sq w0 w O M v l X) (hl : l.length ≤ 10000) : Calls Try.prog 14 #[pt O] w fun e w' => STake w0 O M v l X w e w' := by
  refine (atake_calls h.q hl).mono ?_
  rintro e w' (⟨h1, h2, h3⟩ | ⟨x, h1, h2, h3, h4⟩)
  · exact .inl ⟨h1, h2, h.step h3⟩
  · exact .inr ⟨x, h1, h2, h3, h.step h4⟩
def SDrop (w0 : World) (O M : Nat) (v : Value) (l : List Ent) (X : Nat → Prop) (p : Int) (w : World) (e : Ending) (w' : World) : Prop :=
  ∃ t, e = .returned (.bool t) ∧ (t = true ↔ ∃ x ∈ l, x.1 = p) ∧ SOut w0 O M v (wo l p) X w w'
theorem sdrop (h : Sq w0 w O M v l X) (p : Int) (hp : (key p).wf = true) (hl : l.length ≤ 10000) : Calls Try.prog 11 #[pt O, .int .i64 p] w fun e w' => SDrop w0 O M v l X p w e w' := by
  refine (adrop_calls h.q p hp hl).mono ?_
  rintro e w' ⟨t, h1, h2, h3⟩
  exact ⟨t, h1, h2, h.step h3⟩
end
/-- A block that is kept, and an entry in it. -/
def Bl (w : World) (K : Nat) (x : Ent) : Prop := w.heap[K]? = some (.cells #[.int .i64 x.1, .int .i64 x.2.1, .int .i64 x.2.2] 28 (0, 0))
theorem Bl.c0 {w : World} {K : Nat} {x : Ent} (h : Bl w K x) : w.cell? ⟨K, 0, none⟩ = some (.int .i64 x.1) := by simp only [World.cell?, show w.heap[K]? = _ from h]; rfl
theorem Bl.c1 {w : World} {K : Nat} {x : Ent} (h : Bl w K x) : w.cell? ⟨K, 1, none⟩ = some (.int .i64 x.2.1) := by simp only [World.cell?, show w.heap[K]? = _ from h]; rfl
theorem Bl.c2 {w : World} {K : Nat} {x : Ent} (h : Bl w K x) : w.cell? ⟨K, 2, none⟩ = some (.int .i64 x.2.2) := by simp only [World.cell?, show w.heap[K]? = _ from h]; rfl
theorem Bl.lt {w : World} {K : Nat} {x : Ent} (h : Bl w K x) : K < w.heap.size := (Array.getElem?_eq_some_iff.1 h).1
theorem Bl.new (w : World) (x0 x1 x2 : Int) : Bl (w.alloc (.cells #[.int .i64 x0, .int .i64 x1, .int .i64 x2] 28)) w.heap.size (x0, x1, x2) := heap_alloc_new w _
theorem Bl.below {w w' : World} {K : Nat} {x : Ent} (h : Bl w K x) (hb : Below w.heap.size w w') : Bl w' K x := (hb.block K h.lt).trans h
theorem Bl.at {w w' : World} {K : Nat} {x : Ent} (h : Bl w K x) (hb : w'.heap[K]? = w.heap[K]?) : Bl w' K x := hb.trans h
theorem Bl.fz {w : World} {K : Nat} {x : Ent} (h : Bl w K x) (j : Nat) : w.frozen? ⟨K, j, none⟩ = false := by simp only [World.frozen?, show w.heap[K]? = _ from h]; rfl
end Go.Proofs.Ytadkiikakgmpnaa
