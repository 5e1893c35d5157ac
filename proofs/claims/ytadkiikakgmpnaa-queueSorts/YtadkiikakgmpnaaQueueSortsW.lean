/-
  The walk of the law QueueSorts.
-/
import Derived.Test.YtadkiikakgmpnaaQuP
namespace Go.Proofs.Ytadkiikakgmpnaa
open Go.RowKit Go.Maps Hp
set_option linter.unusedVariables false
/-! ### a map of entries by their places -/
def le (x : Ent) : DataW Unit := .agg [.lit (.int .i64 x.1), .lit (.int .i64 x.2.1), .lit (.int .i64 x.2.2)]
def enElem (v : Value) : Option (DataW Unit × List MemPlace) :=
  match v with
  | .agg xs => (match xs.toList with | [.int .i64 a, .int .i64 b, .int .i64 c] => some (le (a, b, c), []) | _ => none)
  | _ => none
theorem enElem_mk (x : Ent) : enElem (va x) = some (le x, []) := rfl
theorem enElem_inv {v : Value} {z : DataW Unit × List MemPlace} (h : enElem v = some z) : ∃ x, v = va x ∧ z = (le x, []) := by
  cases v with
  | agg xs =>
    obtain ⟨l⟩ := xs
    match l, h with
    | [.int .i64 a, .int .i64 b, .int .i64 c], h => exact ⟨(a, b, c), rfl, (Option.some.inj h).symm⟩
  | _ => simp [enElem] at h
theorem le_inj {a b : Ent} (h : le a = le b) : a = b := by
  obtain ⟨a1, a2, a3⟩ := a
  obtain ⟨b1, b2, b3⟩ := b
  simp only [le, DataW.agg.injEq, List.cons.injEq, DataW.lit.injEq, Lit.int.injEq, true_and, and_true] at h
  obtain ⟨rfl, rfl, rfl⟩ := h
  rfl
def LfD (q : List Ent) (D : DataW Unit) : Prop := ∀ p : Int, (key p).wf = true → (Maps.has D (key p) = true ↔ ∃ x ∈ q, x.1 = p) ∧ ∀ x ∈ q, x.1 = p → ∀ z, D.atKey (key p) z = le x
theorem LfD.put {q : List Ent} {D : DataW Unit} (hD : IsMap D) (h : LfD q D) (x : Ent) (hx : (key x.1).wf = true) : LfD (Go.Proofs.Ytadkiikakgmpnaa.put q x) (D.put (key x.1) (le x)) := by
  intro p hp
  obtain ⟨h1, h2⟩ := h p hp
  have hm : ∀ y, y ∈ Go.Proofs.Ytadkiikakgmpnaa.put q x ↔ ((y ∈ q ∧ y.1 ≠ x.1) ∨ y = x) := fun y => by unfold Go.Proofs.Ytadkiikakgmpnaa.put; rw [List.mem_append, wo_mem, List.mem_singleton]
  by_cases hpe : p = x.1
  · subst hpe
    refine ⟨⟨fun _ => ⟨x, (hm x).2 (.inr rfl), rfl⟩, fun _ => has_put_same hD (key_is hx) _⟩, fun y hy hq z => ?_⟩
    rw [atKey_put_same hD (key_is hx)]
    rcases (hm y).1 hy with ⟨_, hne⟩ | rfl
    · exact absurd hq hne
    · rfl
  · have ne : key p ≠ key x.1 := fun h => hpe (key_inj h)
    rw [has_put_other ne]
    refine ⟨h1.trans ⟨fun ⟨y, hy, hq⟩ => ⟨y, (hm y).2 (.inl ⟨hy, fun e => hpe (hq.symm.trans e)⟩), hq⟩, fun ⟨y, hy, hq⟩ => ?_⟩, fun y hy hq z => ?_⟩
    · rcases (hm y).1 hy with ⟨hy, _⟩ | rfl
      · exact ⟨y, hy, hq⟩
      · exact absurd hq.symm hpe
    · rw [atKey_put_other ne]
      rcases (hm y).1 hy with ⟨hy, _⟩ | rfl
      · exact h2 y hy hq z
      · exact absurd hq.symm hpe
theorem LfD.del {q : List Ent} {D : DataW Unit} (h : LfD q D) (r : Int) : LfD (wo q r) (D.del (key r)) := by
  intro p hp
  obtain ⟨h1, h2⟩ := h p hp
  by_cases hpe : p = r
  · subst hpe
    refine ⟨⟨fun h => ?_, fun ⟨y, hy, hq⟩ => absurd hq (wo_mem.1 hy).2⟩, fun y hy hq => absurd hq (wo_mem.1 hy).2⟩
    rw [has_del_same] at h
    cases h
  · have ne : key p ≠ key r := fun h => hpe (key_inj h)
    rw [has_del_other ne]
    refine ⟨h1.trans ⟨fun ⟨y, hy, hq⟩ => ⟨y, wo_mem.2 ⟨hy, fun e => hpe (hq.symm.trans e)⟩, hq⟩, fun ⟨y, hy, hq⟩ => ⟨y, (wo_mem.1 hy).1, hq⟩⟩, fun y hy hq z => ?_⟩
    rw [atKey_del_other ne]
    exact h2 y (wo_mem.1 hy).1 hq z
/-- The map in memory. -/
def Lf (w : World) (N : Nat) (q : List Ent) : Prop := ∃ D, w.ownsMap Try.prog 3 enElem N q.length D ∧ Maps.size D = q.length ∧ LfD q D
theorem Lf.below {w w' : World} {N : Nat} {q : List Ent} (h : Lf w N q) (hb : Below w.heap.size w w') : Lf w' N q := by
  obtain ⟨D, h1, h2⟩ := h
  exact ⟨D, map_mut h1 (Mut.ofBelow hb (fun _ => False)) (fun e => e), h2⟩
theorem Lf.lt {w : World} {N : Nat} {q : List Ent} (h : Lf w N q) : N < w.heap.size := by
  obtain ⟨D, h1, h2⟩ := h
  exact h1.lt
theorem Lf.at {w w' : World} {N : Nat} {q : List Ent} (h : Lf w N q) (hb : w'.heap[N]? = w.heap[N]?) : Lf w' N q := by
  obtain ⟨D, ⟨es, clock, h1, r⟩, h2⟩ := h
  exact ⟨D, ⟨es, clock, hb.trans h1, r⟩, h2⟩
theorem Try.zeroEn (w : World) : (zeroValue 28).run Try.prog w = .ok (.agg #[.int .i64 0, .int .i64 0, .int .i64 0]) w := by kernel_rfl
theorem Lf.put_run {w : World} {N : Nat} {q : List Ent} (h : Lf w N q) (hd : Dis q) (x0 x1 x2 : Int) (hx : (key x0).wf = true) (hn : q.length ≤ 1000) :
    ∃ w', (Instr.mapUpdate 42 (.map (some N)) (.int .i64 x0) (.agg #[.int .i64 x0, .int .i64 x1, .int .i64 x2])).run Try.prog w = .ok () w' ∧ Lf w' N (Go.Proofs.Ytadkiikakgmpnaa.put q (x0, x1, x2)) ∧ Mut (fun k => k = N) w w' := by
  obtain ⟨D, h1, h2, h3⟩ := h
  obtain ⟨w', r, o, t⟩ := h1.store (int_keyed Try.underlying3) Try.underlying42 (by unfold maxLen; omega) (keyOf_int_mk Try.underlying3 hx) (enElem_mk (x0, x1, x2))
  have hs : Maps.size (D.put (key x0) (le (x0, x1, x2))) = (Go.Proofs.Ytadkiikakgmpnaa.put q (x0, x1, x2)).length := by
    rw [size_put (h1.tidy (int_keyed Try.underlying3)), h2]
    unfold Go.Proofs.Ytadkiikakgmpnaa.put
    rw [List.length_append, List.length_singleton]
    by_cases he : Maps.has D (key x0) = true
    · rw [if_pos he]
      have := wo_len hd (p := x0) ((h3 x0 hx).1.1 he)
      simp only
      omega
    · rw [if_neg he]
      simp only
      rw [wo_none (fun y hy hp => he ((h3 x0 hx).1.2 ⟨y, hy, hp⟩))]
  refine ⟨w', r, ⟨_, ?_, hs, h3.put h1.isMap (x0, x1, x2) hx⟩, turned_mut t rfl⟩
  rw [← hs]
  exact map_fit o
theorem Lf.look {w : World} {N : Nat} {q : List Ent} (h : Lf w N q) (x0 x1 x2 : Int) (hx : (key x0).wf = true) (hm : (x0, x1, x2) ∈ q) :
    (Instr.lookup 42 (.map (some N)) (.int .i64 x0) true).run Try.prog w = .ok (.tuple #[.agg #[.int .i64 x0, .int .i64 x1, .int .i64 x2], .bool true]) w := by
  obtain ⟨D, h1, h2, h3⟩ := h
  obtain ⟨u, ps, hrun, hu⟩ := h1.look_ok (int_keyed Try.underlying3) Try.underlying42 (Try.zeroEn w) (enElem_mk (0, 0, 0)) (keyOf_int_mk Try.underlying3 hx)
  obtain ⟨y, rfl, hz⟩ := enElem_inv hu
  have hz1 := congrArg Prod.fst hz
  simp only at hz1
  obtain ⟨g1, g2⟩ := h3 x0 hx
  rw [show D.atKey (Lit.int .i64 x0) (le (0, 0, 0)) = le (x0, x1, x2) from g2 _ hm rfl _] at hz1
  have e := le_inj hz1
  rw [hrun, ← e, show Maps.has D (Lit.int .i64 x0) = true from g1.2 ⟨_, hm, rfl⟩]
  rfl
theorem Lf.del_run {w : World} {N : Nat} {q : List Ent} (h : Lf w N q) (hd : Dis q) (p : Int) (hp : (key p).wf = true) (hm : ∃ x ∈ q, x.1 = p) (ty : TypeId) :
    ∃ w', (Builtin.delete_ #[42, 3] ty #[.map (some N), .int .i64 p]).run Try.prog w = .ok (.tuple #[]) w' ∧ Lf w' N (wo q p) ∧ Mut (fun k => k = N) w w' := by
  obtain ⟨D, h1, h2, h3⟩ := h
  obtain ⟨w', r, o, t⟩ := h1.drop (int_keyed Try.underlying3) Try.underlying42 (keyOf_int_mk Try.underlying3 hp) ty
  have hs : Maps.size (D.del (key p)) = (wo q p).length := by
    have e1 := size_del (h1.tidy (int_keyed Try.underlying3)) (k := key p)
    rw [if_pos ((h3 p hp).1.2 hm)] at e1
    have e2 := wo_len hd hm
    omega
  refine ⟨w', r, ⟨_, ?_, hs, h3.del p⟩, turned_mut t rfl⟩
  rw [← hs]
  exact map_fit o
theorem Lf.len_run {w : World} {N : Nat} {q : List Ent} (h : Lf w N q) (ty : TypeId) : (Builtin.len_ #[42] ty #[.map (some N)]).run Try.prog w = .ok (.int .i64 (q.length : Int)) w := by
  obtain ⟨D, h1, h2, h3⟩ := h
  have := h1.len Try.underlying42 ty
  rwa [h2] at this
theorem lf_new (w : World) : Lf (w.alloc (.map #[] 0)) w.heap.size [] :=
  ⟨_, World.ownsMap_made w _ _ _, rfl, fun p hp => ⟨⟨fun h => by simp [Maps.has] at h, fun ⟨x, hx, _⟩ => (by cases hx)⟩, fun x hx => (by cases hx)⟩⟩
theorem lt_next {q : List Ent} {x y : Ent} (hl : ∀ e ∈ q, ¬ lt e x) (hy : y ∈ wo q x.1) : lt x y := by
  obtain ⟨h1, h2⟩ := wo_mem.1 hy
  apply Classical.byContradiction
  intro h
  exact h2 (lt_place (hl y h1) h)
theorem Bl.mut {w w' : World} {K : Nat} {x : Ent} {S : Nat → Prop} (h : Bl w K x) (hm : Mut S w w') (hS : ¬ S K) : Bl w' K x := (hm.block K h.lt hS).trans h
set_option maxRecDepth 100000 in
set_option maxHeartbeats 12800000 in
theorem queueSorts_calls {w : World} {a : Option Addr} {n c : Nat} {l : List Ent} (R : Er w a n c l) (W : ∀ x ∈ l, (key x.1).wf = true) :
    Calls Try.prog 4 #[.slice a n c] w fun e w' => e = .returned (.bool true) ∧ Below w.heap.size w w' := by
  have RW := hid R
  have WW := hid W
  have HLn := hid R.len
  clear R W
  by_cases hbig : 300 < n
  · have k0 : (300 : Int) < n := by omega
    go_enter Try.func4, Try.ntmps4
    go_wp2_with fail
    refine (qfixed_calls _).mono ?_
    rintro e w1 ⟨rfl, b1⟩
    have B1 := hid b1
    clear b1
    go_wp2_with fail
    go_ret
    exact ⟨rfl, B1.out⟩
  have k0 : ¬ (300 : Int) < n := by omega
  have hmm := run_makeMap (P := Try.prog) 42
  go_enter Try.func4, Try.ntmps4
  go_wp2_with fail
  refine (snew w w (Below.refl _ _)).mono ?_
  rintro e w1 ⟨O, M, v1, rfl, s1, _, _, _, _⟩
  have S2 := hid (s1.grow (w' := w1.alloc (.map #[] 0)) ((Below.refl _ _).alloc (Nat.le_refl _) _) (X' := fun k => k = w1.heap.size) (fun k hk => .inr ⟨by omega, by simp; omega⟩))
  have L2 := hid (lf_new w1)
  have hs1 := s1.below.size
  clear s1
  go_wp2_with fail
  obtain ⟨N, hN⟩ : ∃ N, w1.heap.size = N := ⟨_, rfl⟩
  obtain ⟨W2, hW2⟩ : ∃ W, w1.alloc (.map #[] 0) = W := ⟨_, rfl⟩
  rw [hN, hW2] at S2 L2
  rw [hN] at hs1
  rw [hN, hW2]
  clear hN hW2
  go_loopg [21] n (fun r iv wr => ∃ (j : Nat) (v : Value) (q : List Ent), r = n - j ∧ iv = .int .i64 (j : Int) ∧ j ≤ n ∧ Hid (q.length ≤ j) ∧ Hid (Sq w wr O M v q (fun k => k = N)) ∧ Hid (Lf wr N q))
  case atStart => exact ⟨0, v1, [], rfl, rfl, by omega, hid (Nat.le_refl _), S2, L2⟩
  case round =>
    obtain ⟨j, v, q, rfl, rfl, hj, HQ, HS, HL⟩ := hrel
    by_cases hlt : j < n
    · have k1 : (j : Int) < n := by omega
      have k2 : (0 : Int) ≤ j := by omega
      have e2 : IntKind.i64.wrap ((j : Int) + 1) = j + 1 := i64_in (by omega) (by omega)
      have hq := HQ.out
      obtain ⟨b, off, rfl, hbl, p0, p1, p2⟩ := (RW.out.below HS.out.below).at' hlt
      have HX := hid (WW.out _ (et_mem (l := l) (i := j) (by rw [HLn.out]; exact hlt)))
      obtain ⟨⟨x0, x1, x2⟩, hx⟩ : ∃ x, et l j = x := ⟨_, rfl⟩
      rw [hx] at p0 p1 p2 HX
      simp only at p0 p1 p2 HX
      have ba := (Below.refl wr.heap.size wr).alloc (Nat.le_refl _) (.cells #[.int .i64 x0, .int .i64 x1, .int .i64 x2] 28)
      have S1 := hid (HS.out.grow ba (X' := fun k => k = N ∨ k = wr.heap.size) (fun k hk => hk.imp id (fun e => ⟨by omega, by simp; omega⟩)))
      have L1 := hid (HL.out.below ba)
      have X1 := hid (Bl.new wr x0 x1 x2)
      have c0 := X1.out.c0
      have c1 := X1.out.c1
      have c2 := X1.out.c2
      simp only at c0 c1 c2
      clear hx ba HS HL HQ
      go_wp2_with fail
      obtain ⟨K, hK⟩ : ∃ K, wr.heap.size = K := ⟨_, rfl⟩
      obtain ⟨W1, hW1⟩ : ∃ W, wr.alloc (.cells #[.int .i64 x0, .int .i64 x1, .int .i64 x2] 28) = W := ⟨_, rfl⟩
      rw [hW1, hK] at S1 X1
      rw [hW1] at L1
      rw [hW1, hK]
      clear hW1 hK c0 c1 c2 p0 p1 p2
      have D1 := hid S1.out.q.dis
      refine (sput S1.out (x0, x1, x2) HX.out (by omega)).mono ?_
      rintro e w3 ⟨rfl, v3, s3, f3, _⟩
      have L3 := L1.out.at (f3 N (.inl rfl))
      have X3 := hid (X1.out.at (f3 K (.inr rfl)))
      obtain ⟨w4, hrun, l4, m4⟩ := L3.put_run D1.out x0 x1 x2 HX.out (by omega)
      have S4 := hid ((s3.fewer (X' := fun k => k = N) (fun k e => .inl e)).keep m4 (fun k e => e) (fun k e => by omega))
      have L4 := hid l4
      have N4 := hid (show (put q (x0, x1, x2)).length ≤ j + 1 from by unfold put; have := wo_le q x0; rw [List.length_append]; simp only [List.length_singleton]; omega)
      clear s3 f3 L3 l4 m4 S1 L1 X1 D1
      have c0 := X3.out.c0
      have c1 := X3.out.c1
      have c2 := X3.out.c2
      simp only at c0 c1 c2
      go_wp2_with fail
      go_roundg (n - (j + 1))
      case measure => omega
      case rel => exact ⟨j + 1, v3, _, rfl, by go_num, by omega, N4, S4, L4⟩
    · have hjn : j = n := by omega
      have k1 : ¬ ((j : Int) < n) := by omega
      have hq : q.length ≤ n := by have := HQ.out; omega
      have ba := (Below.refl wr.heap.size wr).alloc (Nat.le_refl _) (.cells #[.int .i64 0, .int .i64 0, .int .i64 0] 28)
      have S1 := hid (HS.out.grow ba (X' := fun k => k = N ∨ k = wr.heap.size) (fun k hk => hk.imp id (fun e => ⟨by omega, by simp; omega⟩)))
      have L1 := hid (HL.out.below ba)
      have X1 := hid (Bl.new wr 0 0 0)
      have hNK := hid (show N ≠ wr.heap.size from fun e => by have := HL.out.lt; omega)
      have hbK := hid (show w.heap.size ≤ wr.heap.size from HS.out.below.size)
      clear hjn HS HL HQ ba L2 S2
      go_wp2_with fail
      obtain ⟨K, hK⟩ : ∃ K, wr.heap.size = K := ⟨_, rfl⟩
      obtain ⟨W1, hW1⟩ : ∃ W, wr.alloc (.cells #[.int .i64 0, .int .i64 0, .int .i64 0] 28) = W := ⟨_, rfl⟩
      rw [hW1, hK] at S1 X1
      rw [hW1] at L1
      rw [hK] at hNK hbK
      rw [hW1, hK]
      clear hW1 hK k1
      go_loopg [8] q.length (fun r kv wr => ∃ (k : Nat) (v : Value) (q : List Ent) (z : Ent), r = q.length ∧ kv = .int .i64 (k : Int) ∧ k + q.length ≤ n ∧ Hid (Sq w wr O M v q (fun k => k = N ∨ k = K)) ∧ Hid (Lf wr N q) ∧ Hid (Bl wr K z) ∧ Hid (0 < k → ∀ y ∈ q, lt z y))
      case atStart => exact ⟨0, v, q, (0, 0, 0), rfl, rfl, by omega, S1, L1, X1, hid (fun h => absurd h (by omega))⟩
      case round =>
        obtain ⟨k, v, q, ⟨z0, z1, z2⟩, rfl, rfl, hkq, HS, HL, HZ, HR⟩ := hrel
        have k2 : (0 : Int) ≤ k := by omega
        have e2 : IntKind.i64.wrap ((k : Int) + 1) = k + 1 := i64_in (by omega) (by omega)
        have D1 := hid HS.out.q.dis
        have WF := hid HS.out.q.wf
        go_wp2_with fail
        refine (stake HS.out (by omega)).mono ?_
        rintro e w3 (⟨rfl, rfl, v3, s3, f3, _⟩ | ⟨⟨x0, x1, x2⟩, hm, hlst, rfl, v3, s3, f3, _⟩)
        · have ba := (Below.refl w3.heap.size w3).alloc (Nat.le_refl _) (.cells #[.int .i64 0, .int .i64 0, .int .i64 0] 28)
          have S3 := hid (s3.grow ba (X' := fun k => k = N) (fun k hk => .inl (.inl hk)))
          have L3 := hid ((HL.out.at (f3 N (.inl rfl))).below ba)
          unfold va
          clear s3 f3 ba HS HL HZ HR D1 WF
          go_wp2_with fail
          obtain ⟨W3, hW3⟩ : ∃ W, w3.alloc (.cells #[.int .i64 0, .int .i64 0, .int .i64 0] 28) = W := ⟨_, rfl⟩
          rw [hW3] at S3 L3
          rw [hW3]
          clear hW3
          refine (qfixed_calls _).mono ?_
          rintro e w4 ⟨rfl, b4⟩
          have S4 := hid (S3.out.grow b4 (X' := fun k => k = N) (fun k hk => .inl hk))
          have hlen := (L3.out.below b4).len_run
          clear b4 S3 L3
          simp only [List.length_nil] at hlen
          go_wp2_with fail
          refine (alen_calls S4.out.q).mono ?_
          rintro e w5 ⟨rfl, hw5⟩
          subst hw5
          go_wp2_with fail
          go_ret
          exact ⟨rfl, S4.out.below⟩
        · have hx := WF.out _ hm
          simp only at hx
          have HM := hid (And.intro hm hlst)
          have b1 := (Below.refl w3.heap.size w3).alloc (Nat.le_refl _) (.cells #[.int .i64 x0, .int .i64 x1, .int .i64 x2] 28)
          have hsz : (w3.alloc (.cells #[.int .i64 x0, .int .i64 x1, .int .i64 x2] 28)).heap.size = w3.heap.size + 1 := by simp
          have S3 := hid (s3.grow b1 (X' := fun k => k = N ∨ k = K) (fun k hk => .inl hk))
          have L3 := (HL.out.at (f3 N (.inl rfl))).below b1
          have Z3 := (HZ.out.at (f3 K (.inr rfl))).below b1
          have X3 := Bl.new w3 x0 x1 x2
          have hlook := L3.look x0 x1 x2 hx hm
          have b2 := (Below.refl (w3.alloc (.cells #[.int .i64 x0, .int .i64 x1, .int .i64 x2] 28)).heap.size _).alloc (Nat.le_refl _) (.cells #[.int .i64 x0, .int .i64 x1, .int .i64 x2] 28)
          have S4 := hid (S3.out.grow b2 (X' := fun k => k = N ∨ k = K) (fun k hk => .inl hk))
          have L4 := L3.below b2
          have Z4 := hid (Z3.below b2)
          have X4 := hid (X3.below b2)
          have Y4 := hid (Bl.new (w3.alloc (.cells #[.int .i64 x0, .int .i64 x1, .int .i64 x2] 28)) x0 x1 x2)
          rw [hsz] at Y4
          have hKK := hid (show w3.heap.size ≠ K ∧ w3.heap.size ≠ N from ⟨fun e => by have := (HZ.out.at (f3 K (.inr rfl))).lt; omega, fun e => by have := (HL.out.at (f3 N (.inl rfl))).lt; omega⟩)
          have HR3 := hid (show 0 < k → lt (z0, z1, z2) (x0, x1, x2) from fun h => HR.out h _ hm)
          have NX := hid (show ∀ y ∈ wo q x0, lt (x0, x1, x2) y from fun y hy => lt_next (x := (x0, x1, x2)) hlst hy)
          have NL := hid (show (wo q x0).length + 1 = q.length from wo_len D1.out ⟨_, hm, rfl⟩)
          obtain ⟨w5, hdel, l5, m5⟩ := L4.del_run D1.out x0 hx ⟨_, hm, rfl⟩ 0
          have S5 := hid (S4.out.keep m5 (fun k e => .inl e) (fun k e => by omega))
          have L5 := hid l5
          have X5 := hid (X4.out.mut m5 hKK.out.2)
          have Z5 := hid (Z4.out.mut m5 (fun e => hNK.out e.symm))
          unfold va
          clear s3 f3 hm hlst HS HL HZ HR L3 Z3 X3 L4 l5 m5 b1 b2 S3 S4 hx hsz
          have c0 := (Bl.new w3 x0 x1 x2).c0
          have y0 := Y4.out.c0
          have y1 := Y4.out.c1
          have y2 := Y4.out.c2
          have u0 := X4.out.c0
          have u1 := X4.out.c1
          have u2 := X4.out.c2
          have r0 := Z4.out.c0
          have r1 := Z4.out.c1
          have r2 := Z4.out.c2
          simp only at c0 y0 y1 y2 u0 u1 u2 r0 r1 r2
          have hne := Try.neqEn x0 x1 x2
          have g0 := X5.out.c0
          have g1 := X5.out.c1
          have g2 := X5.out.c2
          simp only at g0 g1 g2
          obtain ⟨⟨s0, t0⟩, ⟨s1, t1⟩, ⟨s2, t2⟩, _, rb⟩ := ret_e Z5.out (.int .i64 x0) (.int .i64 x1) (.int .i64 x2)
          have me := mut_e w5 K (.int .i64 x0) (.int .i64 x1) (.int .i64 x2) (S := fun k => k = K) rfl
          have S6 := hid (S5.out.keep me (fun k e => .inr e) (fun k e => by have := hbK.out; omega))
          have L6 := hid (L5.out.at (me.block N L5.out.lt hNK.out))
          have Z6 := hid rb
          simp only at s0 s1 s2
          have hwl := NL.out
          clear me rb S5 L5 X5 X4 Y4 Z4 Z5
          rcases Nat.eq_zero_or_pos k with h0 | h0
          · subst h0
            go_wp2_with fail
            go_roundg (wo q x0).length
            case measure => omega
            case rel => exact ⟨1, v3, _, (x0, x1, x2), rfl, by go_num, by omega, S6, L6, Z6, hid (fun _ => NX.out)⟩
          · have gk : (0 : Int) < k := by omega
            have HLT := HR3.out h0
            unfold lt at HLT
            simp only at HLT
            rcases HLT with hc | ⟨hc, hd⟩
            · have d1 : ¬ x1 < z1 := by omega
              have d2 : (x1 == z1) = false := by simp; omega
              go_wp2_with fail
              go_roundg (wo q x0).length
              case measure => omega
              case rel => exact ⟨k + 1, v3, _, (x0, x1, x2), rfl, by go_num, by omega, S6, L6, Z6, hid (fun _ => NX.out)⟩
            · have d1 : ¬ x1 < z1 := by omega
              have d2 : (x1 == z1) = true := by simp; omega
              have d3 : ¬ x0 ≤ z0 := by omega
              clear hc
              go_wp2_with fail
              go_roundg (wo q x0).length
              case measure => omega
              case rel => exact ⟨k + 1, v3, _, (x0, x1, x2), rfl, by go_num, by omega, S6, L6, Z6, hid (fun _ => NX.out)⟩
end Go.Proofs.Ytadkiikakgmpnaa
