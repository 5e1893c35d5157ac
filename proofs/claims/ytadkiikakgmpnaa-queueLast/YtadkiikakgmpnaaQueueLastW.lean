/-
  The walk of the law QueueLast.
-/
import Derived.Test.YtadkiikakgmpnaaQuP
namespace Go.Proofs.Ytadkiikakgmpnaa
open Go.RowKit Go.Maps Hp
set_option linter.unusedVariables false
/-- An entry of a row, its place the place in the row. -/
def Ei (l : List Ent) (i : Nat) : Ent := ((i : Int), (et l i).2.1, (et l i).2.2)
theorem wo_ei {l : List Ent} {g : Nat → Nat} {j k : Nat} (h : ∀ i, i < j → g i ≠ k) : wo ((List.range j).map fun i => Ei l (g i)) (k : Int) = (List.range j).map fun i => Ei l (g i) :=
  wo_none (fun e he hp => by
    simp only [List.mem_map, List.mem_range] at he
    obtain ⟨i, hi, rfl⟩ := he
    have : (g i : Int) = k := hp
    exact h i hi (by omega))
theorem put_ei {l : List Ent} {g : Nat → Nat} {j : Nat} (h : ∀ i, i < j → g i ≠ g j) (y1 y2 : Int) : put (put ((List.range j).map fun i => Ei l (g i)) ((g j : Int), y1, y2)) (Ei l (g j)) = (List.range (j + 1)).map fun i => Ei l (g i) := by
  have e1 : put ((List.range j).map fun i => Ei l (g i)) ((g j : Int), y1, y2) = ((List.range j).map fun i => Ei l (g i)) ++ [((g j : Int), y1, y2)] := by
    unfold put
    rw [wo_ei h]
  rw [e1]
  unfold put
  rw [List.range_succ, List.map_append]
  congr 1
  show wo _ (g j : Int) = _
  unfold wo
  rw [List.filter_append]
  have e2 := wo_ei (l := l) h
  unfold wo at e2
  rw [e2]
  simp
theorem put_ei1 {l : List Ent} {j : Nat} : put ((List.range j).map fun i => Ei l i) (Ei l j) = (List.range (j + 1)).map fun i => Ei l i := by
  unfold put
  rw [List.range_succ, List.map_append]
  congr 1
  exact wo_ei (g := fun i => i) (fun i hi => by omega)
theorem mem_ei {l : List Ent} {n : Nat} {e : Ent} : e ∈ ((List.range n).map fun i => Ei l i) ↔ e ∈ ((List.range n).map fun i => Ei l (n - 1 - i)) := by
  simp only [List.mem_map, List.mem_range]
  constructor
  · rintro ⟨i, hi, rfl⟩
    exact ⟨n - 1 - i, by omega, by congr 1; omega⟩
  · rintro ⟨i, hi, rfl⟩
    exact ⟨n - 1 - i, by omega, rfl⟩
/-- Two agendas that lie apart. -/
structure Tw (w0 w : World) (Oa Ma : Nat) (vA : Value) (la : List Ent) (Ob Mb : Nat) (vB : Value) (lb : List Ent) : Prop where
  a : Sq w0 w Oa Ma vA la (own Ob Mb vB)
  b : Sq w0 w Ob Mb vB lb (own Oa Ma vA)
section
variable {w0 w w' : World} {Oa Ma Ob Mb : Nat} {vA vB : Value} {la lb l' : List Ent}
theorem Tw.turn (h : Tw w0 w Oa Ma vA la Ob Mb vB lb) : Tw w0 w Ob Mb vB lb Oa Ma vA la := ⟨h.b, h.a⟩
theorem Tw.left (h : Tw w0 w Oa Ma vA la Ob Mb vB lb) (o : SOut w0 Oa Ma vA l' (own Ob Mb vB) w w') : ∃ vA', Tw w0 w' Oa Ma vA' l' Ob Mb vB lb ∧ Mut (own Oa Ma vA) w w' := by
  obtain ⟨vA', s, k, m⟩ := o
  exact ⟨vA', ⟨s, ⟨h.b.q.kept m (fun k hk => (h.a.apart k hk).2), h.b.base, s.below, fun k hk => ⟨s.q.lt hk, fun e => (s.apart k e).2 hk⟩⟩⟩, m⟩
theorem Tw.right (h : Tw w0 w Oa Ma vA la Ob Mb vB lb) (o : SOut w0 Ob Mb vB l' (own Oa Ma vA) w w') : ∃ vB', Tw w0 w' Oa Ma vA la Ob Mb vB' l' ∧ Mut (own Ob Mb vB) w w' := by
  obtain ⟨vB', t, m⟩ := h.turn.left o
  exact ⟨vB', t.turn, m⟩
theorem Tw.grow (h : Tw w0 w Oa Ma vA la Ob Mb vB lb) (hb : Below w.heap.size w w') : Tw w0 w' Oa Ma vA la Ob Mb vB lb := ⟨h.a.grow hb (fun k hk => .inl hk), h.b.grow hb (fun k hk => .inl hk)⟩
end
theorem Bl.mut {w w' : World} {K : Nat} {x : Ent} {S : Nat → Prop} (h : Bl w K x) (hm : Mut S w w') (hS : ¬ S K) : Bl w' K x := (hm.block K h.lt hS).trans h
set_option maxRecDepth 100000 in
set_option maxHeartbeats 12800000 in
theorem queueLast_calls {w : World} {a : Option Addr} {n c : Nat} {l : List Ent} (R : Er w a n c l) (place order : Int) (hpl : (key place).wf = true) :
    Calls Try.prog 5 #[.slice a n c, .int .i64 place, .int .i64 order] w fun e w' => e = .returned (.bool true) ∧ Below w.heap.size w w' := by
  have RW := hid R
  have HLn := hid R.len
  have HP := hid hpl
  clear R hpl
  by_cases hbig : 100 < n
  · have k0 : (100 : Int) < n := by omega
    go_enter Try.func5, Try.ntmps5
    go_wp2_with fail
    refine (qfixed_calls _).mono ?_
    rintro e w1 ⟨rfl, b1⟩
    have B1 := hid b1
    clear b1
    go_wp2_with fail
    go_ret
    exact ⟨rfl, B1.out⟩
  have k0 : ¬ (100 : Int) < n := by omega
  go_enter Try.func5, Try.ntmps5
  go_wp2_with fail
  refine (snew w w (Below.refl _ _)).mono ?_
  rintro e w1 ⟨Oa, Ma, va0, rfl, s1, _, _, _, _⟩
  have S1 := hid s1
  clear s1
  go_wp2_with fail
  refine (snew w w1 S1.out.below).mono ?_
  rintro e w2 ⟨Ob, Mb, vb0, rfl, s2, hOb, hMb, hvb, b2⟩
  have ob : ∀ k, own Ob Mb vb0 k → w1.heap.size ≤ k := by
    rintro k (rfl | rfl | e)
    · exact hOb
    · exact hMb
    · rw [hvb] at e; cases e
  have T0 := hid (show Tw w w2 Oa Ma va0 [] Ob Mb vb0 [] from ⟨S1.out.grow b2 (fun k hk => .inr ⟨ob k hk, s2.q.lt hk⟩), ⟨s2.q, s2.base, s2.below, fun k hk => ⟨Nat.lt_of_lt_of_le (S1.out.q.lt hk) b2.size, fun e => by have h1 := ob k e; have h2 := S1.out.q.lt hk; omega⟩⟩⟩)
  clear s2 hOb hMb hvb b2 ob S1
  go_wp2_with fail
  go_loopg [27] n (fun r iv wr => ∃ (j : Nat) (vA : Value), r = n - j ∧ iv = .int .i64 (j : Int) ∧ j ≤ n ∧ Hid (Tw w wr Oa Ma vA ((List.range j).map fun i => Ei l i) Ob Mb vb0 []))
  case atStart => exact ⟨0, va0, rfl, rfl, by omega, T0⟩
  case round =>
    obtain ⟨j, vA, rfl, rfl, hj, HT⟩ := hrel
    by_cases hlt : j < n
    · have k1 : (j : Int) < n := by omega
      have k2 : (0 : Int) ≤ j := by omega
      have e2 : IntKind.i64.wrap ((j : Int) + 1) = j + 1 := i64_in (by omega) (by omega)
      obtain ⟨b, off, rfl, hbl, p0, p1, p2⟩ := (RW.out.below HT.out.a.below).at' hlt
      have HE := hid (show Ei l j = ((j : Int), (et l j).2.1, (et l j).2.2) from rfl)
      obtain ⟨⟨x0, x1, x2⟩, hx⟩ : ∃ x, et l j = x := ⟨_, rfl⟩
      rw [hx] at p0 p1 p2 HE
      simp only at p0 p1 p2 HE
      have T1 := hid (HT.out.grow ((Below.refl _ _).alloc (Nat.le_refl _) (.cells #[.int .i64 (j : Int), .int .i64 x1, .int .i64 x2] 28)))
      clear hx HT
      go_wp2_with fail
      refine (sput T1.out.a ((j : Int), x1, x2) (wf_nat (by omega)) (by simp; omega)).mono ?_
      rintro e w3 ⟨rfl, o3⟩
      obtain ⟨vA', t3, _⟩ := T1.out.left o3
      have T3 := hid (show Tw w w3 Oa Ma vA' ((List.range (j + 1)).map fun i => Ei l i) Ob Mb vb0 [] from by rw [← HE.out, put_ei1] at t3; exact t3)
      clear t3 o3 T1 HE p0 p1 p2
      go_wp2_with fail
      go_roundg (n - (j + 1))
      case measure => omega
      case rel => exact ⟨j + 1, vA', rfl, by go_num, by omega, T3⟩
    · have hjn : j = n := by omega
      have k1 : ¬ ((j : Int) < n) := by omega
      have T1 := hid (show Tw w wr Oa Ma vA ((List.range n).map fun i => Ei l i) Ob Mb vb0 ((List.range 0).map fun i => Ei l (n - 1 - i)) from by rw [← hjn]; exact HT.out)
      clear hjn HT
      go_wp2_with fail
      clear k1
      go_loopg [40] n (fun r iv wr => ∃ (j : Nat) (vB : Value), r = n - j ∧ iv = .int .i64 (j : Int) ∧ j ≤ n ∧ Hid (Tw w wr Oa Ma vA ((List.range n).map fun i => Ei l i) Ob Mb vB ((List.range j).map fun i => Ei l (n - 1 - i))))
      case atStart => exact ⟨0, vb0, rfl, rfl, by omega, T1⟩
      case round =>
        obtain ⟨j, vB, rfl, rfl, hj, HT⟩ := hrel
        by_cases hlt : j < n
        · have k1 : (j : Int) < n := by omega
          have k2 : (0 : Int) ≤ j := by omega
          have e2 : IntKind.i64.wrap ((j : Int) + 1) = j + 1 := i64_in (by omega) (by omega)
          obtain ⟨k, hk⟩ : ∃ k : Nat, k = n - 1 - j := ⟨_, rfl⟩
          have e3 : IntKind.i64.wrap ((n : Int) - 1) = n - 1 := i64_in (by omega) (by omega)
          have e4 : IntKind.i64.wrap ((n : Int) - 1 - j) = k := by rw [i64_in (by omega) (by omega)]; omega
          have k3 : (k : Int) < n := by omega
          have k4 : (0 : Int) ≤ k := by omega
          have kn : k < n := by omega
          have HK := hid hk
          clear hk
          obtain ⟨b, off, rfl, hbl, p0, p1, p2⟩ := (RW.out.below HT.out.a.below).at' kn
          have HE := hid (show Ei l k = ((k : Int), (et l k).2.1, (et l k).2.2) from rfl)
          obtain ⟨⟨x0, x1, x2⟩, hx⟩ : ∃ x, et l k = x := ⟨_, rfl⟩
          rw [hx] at p0 p1 p2 HE
          simp only at p0 p1 p2 HE
          have T2 := hid (HT.out.grow ((Below.refl _ _).alloc (Nat.le_refl _) (.cells #[.int .i64 (k : Int), .int .i64 x1, .int .i64 x2] 28)))
          have X2 := hid (Bl.new wr (k : Int) x1 x2)
          have hKb := hid (show ¬ own Ob Mb vB wr.heap.size from fun e => by have := HT.out.b.q.lt e; omega)
          clear hx HT
          go_wp2_with fail
          obtain ⟨K, hK⟩ : ∃ K, wr.heap.size = K := ⟨_, rfl⟩
          obtain ⟨W2, hW2⟩ : ∃ W, wr.alloc (.cells #[.int .i64 (k : Int), .int .i64 x1, .int .i64 x2] 28) = W := ⟨_, rfl⟩
          rw [hW2] at T2 X2
          rw [hK] at X2 hKb
          rw [hW2, hK]
          clear hW2 hK p0 p1 p2
          refine (sput T2.out.b ((k : Int), order, 0) (wf_nat (by omega)) (by simp; omega)).mono ?_
          rintro e w3 ⟨rfl, o3⟩
          obtain ⟨vb3, t3, m3⟩ := T2.out.right o3
          have T3 := hid t3
          have X3 := hid (X2.out.mut m3 hKb.out)
          have hl3 : (put ((List.range j).map fun i => Ei l (n - 1 - i)) ((k : Int), order, 0)).length ≤ j + 1 := by
            unfold put
            have := wo_le ((List.range j).map fun i => Ei l (n - 1 - i)) (k : Int)
            simp at this ⊢
            omega
          clear t3 o3 m3 T2 X2 hKb
          have c0 := X3.out.c0
          have c1 := X3.out.c1
          have c2 := X3.out.c2
          simp only at c0 c1 c2
          go_wp2_with fail
          refine (sput T3.out.b ((k : Int), x1, x2) (wf_nat (by omega)) (by omega)).mono ?_
          rintro e w4 ⟨rfl, o4⟩
          obtain ⟨vb4, t4, m4⟩ := T3.out.right o4
          have T4 := hid (show Tw w w4 Oa Ma vA ((List.range n).map fun i => Ei l i) Ob Mb vb4 ((List.range (j + 1)).map fun i => Ei l (n - 1 - i)) from by
            have h := put_ei (l := l) (g := fun i => n - 1 - i) (j := j) (fun i hi => by omega) order 0
            try simp only at h
            rw [← HK.out] at h
            rw [HE.out] at h
            rw [h] at t4
            exact t4)
          clear t4 o4 m4 T3 X3 HE c0 c1 c2 hl3
          go_wp2_with fail
          go_roundg (n - (j + 1))
          case measure => omega
          case rel => exact ⟨j + 1, vb4, rfl, by go_num, by omega, T4⟩
        · have hjn : j = n := by omega
          have k1 : ¬ ((j : Int) < n) := by omega
          have TT := hid (show ∃ la lb, Tw w wr Oa Ma vA la Ob Mb vB lb ∧ la.length = n - 0 ∧ lb.length = n - 0 ∧ (∀ e, e ∈ la ↔ e ∈ lb) from ⟨_, _, HT.out, by simp, by rw [hjn]; simp, fun e => by rw [hjn]; exact mem_ei⟩)
          clear hjn HT T1
          go_wp2_with fail
          clear k1
          go_loopg [69] n (fun r iv wr => ∃ (j : Nat) (vA vB : Value) (la lb : List Ent), r = n - j ∧ iv = .int .i64 (j : Int) ∧ j ≤ n ∧ Hid (Tw w wr Oa Ma vA la Ob Mb vB lb) ∧ Hid (la.length = n - j ∧ lb.length = n - j ∧ (∀ e, e ∈ la ↔ e ∈ lb)))
          case atStart =>
            obtain ⟨la, lb, h1, h2⟩ := TT.out
            exact ⟨0, vA, vB, la, lb, rfl, rfl, by omega, h1, h2⟩
          case round =>
            obtain ⟨j, vA, vB, la, lb, rfl, rfl, hj, HT, HE⟩ := hrel
            by_cases hlt : j < n
            · have k1 : (j : Int) < n := by omega
              have k2 : (0 : Int) ≤ j := by omega
              have e2 : IntKind.i64.wrap ((j : Int) + 1) = j + 1 := i64_in (by omega) (by omega)
              have hla := HE.out.1
              have hlb := HE.out.2.1
              go_wp2_with fail
              refine (stake HT.out.a (by omega)).mono ?_
              rintro e w3 (⟨h, _⟩ | ⟨⟨x0, x1, x2⟩, hm, hlst, rfl, o3⟩)
              · rw [h] at hla; simp at hla; omega
              obtain ⟨va3, t3, _⟩ := HT.out.left o3
              have ba := (Below.refl w3.heap.size w3).alloc (Nat.le_refl _) (.cells #[.int .i64 x0, .int .i64 x1, .int .i64 x2] 28)
              have hKb := hid (show ¬ own Ob Mb vB w3.heap.size from fun e => by have := t3.b.q.lt e; omega)
              have T3 := hid (t3.grow ba)
              have X3 := hid (Bl.new w3 x0 x1 x2)
              have HX := hid (And.intro hm hlst)
              have DA := hid HT.out.a.q.dis
              have DB := hid HT.out.b.q.dis
              unfold va
              clear hm hlst o3 t3 ba HT
              go_wp2_with fail
              obtain ⟨K, hK⟩ : ∃ K, w3.heap.size = K := ⟨_, rfl⟩
              obtain ⟨W3, hW3⟩ : ∃ W, w3.alloc (.cells #[.int .i64 x0, .int .i64 x1, .int .i64 x2] 28) = W := ⟨_, rfl⟩
              rw [hW3] at T3 X3
              rw [hK] at X3 hKb
              rw [hW3, hK]
              clear hW3 hK
              refine (stake T3.out.b (by omega)).mono ?_
              rintro e w4 (⟨h, _⟩ | ⟨y, hm, hlst, rfl, o4⟩)
              · rw [h] at hlb; simp at hlb; omega
              obtain rfl : y = (x0, x1, x2) := least_one DA.out ((HE.out.2.2 y).2 hm) HX.out.1 (fun e he => hlst e ((HE.out.2.2 e).1 he)) HX.out.2
              obtain ⟨vb4, t4, m4⟩ := T3.out.right o4
              have ba := (Below.refl w4.heap.size w4).alloc (Nat.le_refl _) (.cells #[.int .i64 x0, .int .i64 x1, .int .i64 x2] 28)
              have T4 := hid (t4.grow ba)
              have X4 := hid ((X3.out.mut m4 hKb.out).below ba)
              have Y4 := hid (Bl.new w4 x0 x1 x2)
              have E4 := hid (show (wo la x0).length = n - (j + 1) ∧ (wo lb x0).length = n - (j + 1) ∧ (∀ e, e ∈ wo la x0 ↔ e ∈ wo lb x0) from by
                have h1 := wo_len DA.out (p := x0) ⟨_, HX.out.1, rfl⟩
                have h2 := wo_len DB.out (p := x0) ⟨_, hm, rfl⟩
                exact ⟨by omega, by omega, fun e => by rw [wo_mem, wo_mem, HE.out.2.2 e]⟩)
              unfold va
              clear hm hlst o4 t4 m4 ba T3 X3 HX hla hlb HE DA DB hKb
              have c0 := X4.out.c0
              have c1 := X4.out.c1
              have c2 := X4.out.c2
              have d0 := Y4.out.c0
              have d1 := Y4.out.c1
              have d2 := Y4.out.c2
              simp only at c0 c1 c2 d0 d1 d2
              have hne := Try.neqEn x0 x1 x2
              go_wp2_with fail
              go_roundg (n - (j + 1))
              case measure => omega
              case rel => exact ⟨j + 1, va3, vb4, _, _, rfl, by go_num, by omega, T4, E4⟩
            · have hjn : j = n := by omega
              have k1 : ¬ ((j : Int) < n) := by omega
              obtain rfl : la = [] := List.eq_nil_of_length_eq_zero (by rw [HE.out.1]; omega)
              obtain rfl : lb = [] := List.eq_nil_of_length_eq_zero (by rw [HE.out.2.1]; omega)
              clear hjn HE TT
              go_wp2_with fail
              refine (ahas_calls HT.out.a.q place HP.out (by simp)).mono ?_
              rintro e w3 ⟨h3, b3⟩
              obtain rfl : e = .returned (.tuple #[.agg #[.int .i64 0, .int .i64 0, .int .i64 0], .bool false]) := by
                rcases h3 with ⟨z, hm, _⟩ | ⟨_, rfl⟩
                · cases hm
                · rfl
              have bb := b3.trans (((Below.refl w3.heap.size w3).alloc (Nat.le_refl _) (.cells #[.int .i64 0, .int .i64 0, .int .i64 0] 28)).mono b3.size)
              have T3 := hid (HT.out.grow bb)
              clear h3 b3 bb HT
              go_wp2_with fail
              obtain ⟨W3, hW3⟩ : ∃ W, w3.alloc (.cells #[.int .i64 0, .int .i64 0, .int .i64 0] 28) = W := ⟨_, rfl⟩
              rw [hW3] at T3
              rw [hW3]
              clear hW3
              refine (qfixed_calls _).mono ?_
              rintro e w4 ⟨rfl, b4⟩
              have T4 := hid (T3.out.grow b4)
              clear b4 T3
              go_wp2_with fail
              refine (alen_calls T4.out.a.q).mono ?_
              rintro e w5 ⟨rfl, hw5⟩
              subst hw5
              go_wp2_with fail
              refine (alen_calls T4.out.b.q).mono ?_
              rintro e w6 ⟨rfl, hw6⟩
              subst hw6
              go_wp2_with fail
              go_ret
              exact ⟨rfl, T4.out.a.below⟩
end Go.Proofs.Ytadkiikakgmpnaa
