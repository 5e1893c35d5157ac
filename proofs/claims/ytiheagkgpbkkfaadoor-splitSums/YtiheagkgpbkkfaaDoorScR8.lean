/-
  The reference's points of bytes, in memory.
-/
import Derived.Test.YtiheagkgpbkkfaaDoorScM
import Derived.Test.YtiheagkgpbkkfaaDoorLotR
import Derived.Test.YtiheagkgpbkkfaaDoorBxF
import Derived.Test.YtiheagkgpbkkfaaDoorLotV
import Derived.Test.YtiheagkgpbkkfaaDoorLotC
import Derived.Deep.RegionLaw
namespace Go.Proofs.YtiheagkgpbkkfaaDoor
open Go.RowKit
set_option linter.unusedVariables false
/-- A call that only reads, as a step of a region that draws. -/
theorem step_call_same {P : Program} {w : World} {ops : Array Oper} {o : Oper} {a : Act} {K : Act → World → Prop} {Q : Exit → Act → World → Prop} {E : Prop} (hgd : o.guard = none) (F : FuncId) (xs : Array Operand) (ts : Array TypeId)
    (ho : o.op = .call { callee := .value (.func F), args := xs, argTypes := ts }) (vals : Array Value) (hv : xs.toList.map a.eval = vals.toList) (hen : (callFunc F vals).run P w = .ok (.enter F vals) w) (v : Value) (hc : Calls P F vals w fun e w' => e = .returned v ∧ w' = w) (h : K (a.put o.dst v) w) :
    if Region.wanted o (yielded ops a.tmps) = true then Oper.wp P o a w K Q else E := by
  have hw : Region.wanted o (yielded ops a.tmps) = true := by simp [Region.wanted, hgd]
  rw [if_pos hw]
  unfold Oper.wp
  have e : (execOp a.eval o).run P w = .ok (.enter F vals) w := by
    have hv2 : xs.map a.eval = vals := by apply Array.toList_inj.1; rw [Array.toList_map, hv]
    subst hv2
    simp [execOp, ho, resolve, invoke, Act.eval, Deferred.ofValue, go_sem]
    exact hen
  rw [e, Oper.upon_enter]
  refine hc.mono ?_
  rintro e w' ⟨rfl, rfl⟩
  exact h
/-- Two rows that lie apart. -/
def Apt (v1 v2 : Value) : Prop := (v1.ownBlock = none ∨ v1.ownBlock ≠ v2.ownBlock) ∧ (v2.ownBlock = none ∨ v2.ownBlock ≠ v1.ownBlock)
theorem Apt.symm {v1 v2 : Value} (h : Apt v1 v2) : Apt v2 v1 := ⟨h.2, h.1⟩
theorem Apt.new {v1 v2 v1' : Value} {N : Nat} (h : Apt v1 v2) (h2 : ∀ g, v2.ownBlock = some g → g < N) (hb : v1'.ownBlock = v1.ownBlock ∨ v1'.ownBlock = some N) : Apt v1' v2 := by
  rcases hb with hb | hb
  · unfold Apt; rw [hb]; exact h
  · refine ⟨.inr fun e => ?_, ?_⟩
    · rw [hb] at e
      have := h2 N e.symm
      omega
    · cases hv : v2.ownBlock with
      | none => exact .inl rfl
      | some g => right; rw [hb]; intro e; have := Option.some.inj e; have := h2 g hv; omega
def ni (ls : List Nat) : Pr.Row := ls.map (fun (k : Nat) => (k : Int))
/-- What the loop of points keeps, at k points. -/
structure Pt (K B S : Nat) (cl : Int → Int) (f : Nat → Int) (n : Nat) (w : World) (k : Nat) (v1 v2 v3 : Value) : Prop where
  bx : Bx4 w B 61 v1 v2 v3 (.int .i64 (S : Int))
  o1 : w.ownsRow (B + 1) 3 1 v1 k (iv ((Utf.pts f n).take k))
  o2 : w.ownsRow (B + 1) 3 1 v2 k (iv (((Utf.pts f n).take k).map cl))
  o3 : w.ownsRow (B + 1) 3 1 v3 k (iv (ni ((Sc.lens f n).take k)))
  a12 : Apt v1 v2
  a13 : Apt v1 v3
  a23 : Apt v2 v3
  hB : K ≤ B
theorem Pt.below {K B S n k : Nat} {cl : Int → Int} {f : Nat → Int} {w w' : World} {v1 v2 v3 : Value} (h : Pt K B S cl f n w k v1 v2 v3) (hb : Below w.heap.size w w') : Pt K B S cl f n w' k v1 v2 v3 :=
  ⟨h.bx.below hb h.bx.lt, own_below h.o1 hb, own_below h.o2 hb, own_below h.o3 hb, h.a12, h.a13, h.a23, h.hB⟩
theorem Pt.sure {K B S n k : Nat} {cl : Int → Int} {f : Nat → Int} {w : World} {v1 v2 v3 : Value} (h : Pt K B S cl f n w k v1 v2 v3) (S2 : Nat) : Pt K B S2 cl f n (w.setCell ⟨B, 3, none⟩ (.int .i64 (S2 : Int))) k v1 v2 v3 :=
  ⟨h.bx.set3 _, own_set h.o1 (own_block h.o1 (by omega)) _, own_set h.o2 (own_block h.o2 (by omega)) _, own_set h.o3 (own_block h.o3 (by omega)) _, h.a12, h.a13, h.a23, h.hB⟩
theorem ps_snoc {l : List Int} {k : Nat} (h : k < l.length) : l.take k ++ [Pr.it l k] = l.take (k + 1) := by
  rw [List.take_add_one, Pr.it_get h]; rfl
theorem ns_snoc {f : Nat → Int} {n k : Nat} (h : k < (Utf.pts f n).length) : ni ((Sc.lens f n).take k) ++ [((Sc.sm f n (k + 1) - Sc.sm f n k : Nat) : Int)] = ni ((Sc.lens f n).take (k + 1)) := by
  have hk : k < (Sc.lens f n).length := by rw [Sc.lens_len]; exact h
  have e : Sc.sm f n (k + 1) - Sc.sm f n k = (Sc.lens f n)[k] := by
    unfold Sc.sm
    rw [List.take_add_one, List.getElem?_eq_getElem hk, List.sum_append]
    simp
  rw [e]
  unfold ni
  rw [List.take_add_one, List.getElem?_eq_getElem hk, List.map_append]
  rfl
/-- All three rows have been appended to: a point's number, its class, how many bytes it has. -/
theorem pt_fin {K B S n k : Nat} {cl : Int → Int} {f : Nat → Int} {W0 W1 W2 W3 W4 W5 W6 : World} {v1 v2 v3 v4 v5 v6 : Value} {ob1 ob2 ob3 : Obj} (h : Pt K B S cl f n W0 k v1 v2 v3) (hk : k < (Utf.pts f n).length)
    (g1 : (W0.alloc ob1).grownBy W1 v1.ownBlock) (p1 : W1.ownsRow (B + 1) 3 1 v4 (k + 1) (iv ((Utf.pts f n).take k) ++ [.int .i64 (Pr.it (Utf.pts f n) k)])) (b1 : v4.ownBlock = v1.ownBlock ∨ v4.ownBlock = some (W0.alloc ob1).heap.size) (hW2 : W2 = W1.setCell ⟨B, 0, none⟩ v4)
    (g2 : ((W2.drew).alloc ob2).grownBy W3 v2.ownBlock) (p2 : W3.ownsRow (B + 1) 3 1 v5 (k + 1) (iv (((Utf.pts f n).take k).map cl) ++ [.int .i64 (cl (Pr.it (Utf.pts f n) k))])) (b2 : v5.ownBlock = v2.ownBlock ∨ v5.ownBlock = some ((W2.drew).alloc ob2).heap.size) (hW4 : W4 = W3.setCell ⟨B, 1, none⟩ v5)
    (g3 : (W4.alloc ob3).grownBy W5 v3.ownBlock) (p3 : W5.ownsRow (B + 1) 3 1 v6 (k + 1) (iv (ni ((Sc.lens f n).take k)) ++ [.int .i64 ((Sc.sm f n (k + 1) - Sc.sm f n k : Nat) : Int)])) (b3 : v6.ownBlock = v3.ownBlock ∨ v6.ownBlock = some (W4.alloc ob3).heap.size) (hW6 : W6 = W5.setCell ⟨B, 2, none⟩ v6) :
    Pt K B S cl f n W6 (k + 1) v4 v5 v6 ∧ Mut (fun b => B ≤ b) W0 W6 := by
  subst hW2 hW4 hW6
  have z1 : (W0.alloc ob1).heap.size = W0.heap.size + 1 := by simp
  have z2 := g1.size
  have z3 : ((W1.setCell ⟨B, 0, none⟩ v4).drew.alloc ob2).heap.size = W1.heap.size + 1 := by simp [World.setCell, World.drew]
  have z4 := g2.size
  have z5 : ((W3.setCell ⟨B, 1, none⟩ v5).alloc ob3).heap.size = W3.heap.size + 1 := by simp [World.setCell]
  have c12 : Apt v4 v2 := h.a12.new (fun g e => by have := (h.o2.lt g e).2; omega) b1
  have c13 : Apt v4 v3 := h.a13.new (fun g e => by have := (h.o3.lt g e).2; omega) b1
  have c23 : Apt v5 v3 := h.a23.new (fun g e => by have := (h.o3.lt g e).2; omega) b2
  have d12 : Apt v4 v5 := (c12.symm.new (fun g e => by have := (p1.lt g e).2; omega) b2).symm
  have e13 : Apt v4 v6 := (c13.symm.new (fun g e => by have := (p1.lt g e).2; omega) b3).symm
  have e23 : Apt v5 v6 := (c23.symm.new (fun g e => by have := (p2.lt g e).2; omega) b3).symm
  have n1 := own_block h.o1 (Nat.lt_succ_self B)
  have n2 := own_block h.o2 (Nat.lt_succ_self B)
  have n3 := own_block h.o3 (Nat.lt_succ_self B)
  have n4 := own_block p1 (Nat.lt_succ_self B)
  have n5 := own_block p2 (Nat.lt_succ_self B)
  have n6 := own_block p3 (Nat.lt_succ_self B)
  have X1 := ((h.bx.alloc ob1).kept g1 (fun e => n1 e.symm)).set0 v4
  have X2 := ((X1.drew.alloc ob2).kept g2 (fun e => n2 e.symm)).set1 v5
  have X3 := ((X2.alloc ob3).kept g3 (fun e => n3 e.symm)).set2 v6
  have r1a := own_set (j := 0) p1 n4 v4
  have r1b := own_set (j := 1) (((r1a.drew).alloc ob2).kept g2 c12.1) n4 v5
  have r1c := own_set (j := 2) ((r1b.alloc ob3).kept g3 c13.1) n4 v6
  have r2b := own_set (j := 1) p2 n5 v5
  have r2c := own_set (j := 2) ((r2b.alloc ob3).kept g3 c23.1) n5 v6
  have r3c := own_set (j := 2) p3 n6 v6
  have e1 : iv ((Utf.pts f n).take k) ++ [.int .i64 (Pr.it (Utf.pts f n) k)] = iv ((Utf.pts f n).take (k + 1)) := by rw [← ps_snoc hk, ← iv_append]; rfl
  have e2 : iv (((Utf.pts f n).take k).map cl) ++ [.int .i64 (cl (Pr.it (Utf.pts f n) k))] = iv (((Utf.pts f n).take (k + 1)).map cl) := by rw [← ps_snoc hk, List.map_append, ← iv_append]; rfl
  have e3 : iv (ni ((Sc.lens f n).take k)) ++ [.int .i64 ((Sc.sm f n (k + 1) - Sc.sm f n k : Nat) : Int)] = iv (ni ((Sc.lens f n).take (k + 1))) := by rw [← ns_snoc hk, ← iv_append]; rfl
  rw [e1] at r1c
  rw [e2] at r2c
  rw [e3] at r3c
  refine ⟨⟨X3, r1c, r2c, r3c, d12, e13, e23, h.hB⟩, ?_⟩
  have q1 : ∀ k, v1.ownBlock = some k → B ≤ k := fun k e => by have := (h.o1.lt k e).1; omega
  have q2 : ∀ k, v2.ownBlock = some k → B ≤ k := fun k e => by have := (h.o2.lt k e).1; omega
  have q3 : ∀ k, v3.ownBlock = some k → B ≤ k := fun k e => by have := (h.o3.lt k e).1; omega
  exact (((((((((Mut.refl (fun b => B ≤ b) W0).alloc ob1).grown g1 q1).setCell B 0 _ (Nat.le_refl _)).drew).alloc ob2).grown g2 q2).setCell B 1 _ (Nat.le_refl _)).alloc ob3).grown g3 q3 |>.setCell B 2 _ (Nat.le_refl _)
theorem r4_all {W : World} {R : Nat} {t : TypeId} {a b c d : Value} (X : Bx4 W R t a b c d) (x y z u : Value) :
    Bx4 (W.setCell ⟨R, 0, none⟩ x) R t x b c d ∧ Bx4 ((W.setCell ⟨R, 0, none⟩ x).setCell ⟨R, 1, none⟩ y) R t x y c d ∧ Bx4 (((W.setCell ⟨R, 0, none⟩ x).setCell ⟨R, 1, none⟩ y).setCell ⟨R, 2, none⟩ z) R t x y z d ∧
    Bx4 ((((W.setCell ⟨R, 0, none⟩ x).setCell ⟨R, 1, none⟩ y).setCell ⟨R, 2, none⟩ z).setCell ⟨R, 3, none⟩ u) R t x y z u :=
  ⟨X.set0 x, (X.set0 x).set1 y, ((X.set0 x).set1 y).set2 z, (((X.set0 x).set1 y).set2 z).set3 u⟩
theorem r4_below {w W : World} {n R : Nat} (h : Below n w W) (hR : n ≤ R) (x y z u : Value) : Below n w ((((W.setCell ⟨R, 0, none⟩ x).setCell ⟨R, 1, none⟩ y).setCell ⟨R, 2, none⟩ z).setCell ⟨R, 3, none⟩ u) :=
  (((h.setCell (p := ⟨R, 0, none⟩) hR x).setCell (p := ⟨R, 1, none⟩) hR y).setCell (p := ⟨R, 2, none⟩) hR z).setCell (p := ⟨R, 3, none⟩) hR u
theorem r4_own {W : World} {base : Nat} {e : TypeId} {size : Nat} {v : Value} {n R : Nat} {xs : List Value} (h : W.ownsRow base e size v n xs) (hR : R < base) (x y z u : Value) : ((((W.setCell ⟨R, 0, none⟩ x).setCell ⟨R, 1, none⟩ y).setCell ⟨R, 2, none⟩ z).setCell ⟨R, 3, none⟩ u).ownsRow base e size v n xs :=
  own_set (own_set (own_set (own_set h (own_block h hR) x) (own_block h hR) y) (own_block h hR) z) (own_block h hR) u
theorem alloc_sz (W : World) (o : Obj) : (W.alloc o).heap.size = W.heap.size + 1 := by simp
theorem own_sl1 {w : World} {base n : Nat} {e : TypeId} {v : Value} {xs : List Value} (h : w.ownsRow base e 1 v n xs) : ∃ a cap, v = .slice a n cap := by
  rcases h.2 with ⟨rfl, rfl⟩ | ⟨g, cap, cur, rfl, _⟩
  · exact ⟨none, 0, rfl⟩
  · exact ⟨_, cap, rfl⟩
/-- A point's struct as it was laid. -/
def Db (W : World) (b : Nat) (p t : Int) : Prop := W.heap[b]? = some (.cells #[.int .i64 p, .int .i64 t, .bool false] 56 (0, 0))
theorem Db.lt {W : World} {b : Nat} {p t : Int} (h : Db W b p t) : b < W.heap.size := (Array.getElem?_eq_some_iff.1 h).1
theorem Db.c0 {W : World} {b : Nat} {p t : Int} (h : Db W b p t) : W.cell? ⟨b, 0, none⟩ = some (.int .i64 p) := by simp [World.cell?, show W.heap[b]? = _ from h]
theorem Db.c1 {W : World} {b : Nat} {p t : Int} (h : Db W b p t) : W.cell? ⟨b, 1, none⟩ = some (.int .i64 t) := by simp [World.cell?, show W.heap[b]? = _ from h]
theorem Db.alloc {W : World} {b : Nat} {p t : Int} (h : Db W b p t) (o : Obj) : Db (W.alloc o) b p t := (Below.heap_alloc _ _ _ h.lt).trans h
theorem Db.set {W : World} {b B j : Nat} {p t : Int} (h : Db W b p t) (hne : b ≠ B) (v : Value) : Db (W.setCell ⟨B, j, none⟩ v) b p t := (Below.heap_setCell _ _ _ _ (by simpa using hne)).trans h
theorem Db.kept {W W' : World} {b : Nat} {p t : Int} {row : Option Nat} (h : Db W b p t) (hg : W.grownBy W' row) (hne : some b ≠ row) : Db W' b p t := (hg.block b h.lt hne).trans h
theorem Db.drew {W : World} {b : Nat} {p t : Int} (h : Db W b p t) : Db W.drew b p t := h
set_option maxRecDepth 100000 in
set_option maxHeartbeats 3200000 in
theorem points_calls12 {s : ByteArray} {n : Nat} {f : Nat → Int} {w : World} {ta : Option Addr} {tn tc : Nat} {L H C : Nat → Int} (hS : St s n f) (T : Rs w ta tn tc L H C) (hn : n ≤ 100000) :
    Calls Tryd.prog 30 #[.slice ta tn tc, .string s] w fun e w' => ∃ v, e = .returned v ∧ Lm w' v (fun p => Cl.cls L H C p 0 tn) (Utf.pts f n) (Sc.lens f n) (Sc.sure f n) ∧ Below w.heap.size w w' := by
  obtain ⟨i0, hi0, hz0, hz1, hz2⟩ := info_parts Tryd.info64
  obtain ⟨cl, hcl⟩ : ∃ cl : Int → Int, cl = fun p => Cl.cls L H C p 0 tn := ⟨_, rfl⟩
  have HCl := hid hcl
  have HS0 := hid hS
  have HT := hid T
  have HLen := hid (Utf.pts_len n n f (Nat.le_refl _))
  have HSu := hid (Sc.sure_le f n)
  have HRl := hid (Utf.rest_le n n f (Nat.le_refl _)).1
  have B0 := hid (((Below.refl w.heap.size w).alloc (Nat.le_refl _) (.cells #[.slice none 0 0, .slice none 0 0, .slice none 0 0, .int .i64 0] 61)).alloc (by simp) (.cells #[.slice none 0 0, .slice none 0 0, .slice none 0 0, .int .i64 0] 61))
  rw [← hcl]
  clear hS T hcl
  go_enter Tryd.func30, Tryd.ntmps30
  go_wp2_with fail
  refine (refRest_calls s n f _ HS0.out hn).mono ?_
  rintro e w1 ⟨rfl, b1⟩
  have B1 := hid (B0.out.trans (b1.mono (by simp; omega)))
  have P0 := hid (show Pt w.heap.size (w.heap.size + 1) 0 cl f n w1 0 (.slice none 0 0) (.slice none 0 0) (.slice none 0 0) from (⟨by have h := Bx4.new (w.alloc (.cells #[.slice none 0 0, .slice none 0 0, .slice none 0 0, .int .i64 0] 61)) 61 (.slice none 0 0) (.slice none 0 0) (.slice none 0 0) (.int .i64 0); simpa using h, World.ownsRow_nil _ _ _ _, World.ownsRow_nil _ _ _ _, World.ownsRow_nil _ _ _ _, ⟨.inl rfl, .inl rfl⟩, ⟨.inl rfl, .inl rfl⟩, ⟨.inl rfl, .inl rfl⟩, by omega⟩ : Pt w.heap.size (w.heap.size + 1) 0 cl f n ((w.alloc (.cells #[.slice none 0 0, .slice none 0 0, .slice none 0 0, .int .i64 0] 61)).alloc (.cells #[.slice none 0 0, .slice none 0 0, .slice none 0 0, .int .i64 0] 61)) 0 (.slice none 0 0) (.slice none 0 0) (.slice none 0 0)).below b1)
  have K0 := hid (show Bx4 w1 w.heap.size 61 (.slice none 0 0) (.slice none 0 0) (.slice none 0 0) (.int .i64 0) from ((Bx4.new w _ _ _ _ _).alloc _).below b1 (by simp; omega))
  clear b1 B0
  obtain ⟨r, hr⟩ : ∃ r, Utf.rest f n = r := ⟨_, rfl⟩
  have HR := hid hr
  have hrl : r ≤ n := by rw [← hr]; exact HRl.out
  rw [hr]
  obtain ⟨SU, hSU⟩ : ∃ SU, Sc.sure f n = SU := ⟨_, rfl⟩
  have HSU := hid hSU
  have hsul : SU ≤ (Utf.pts f n).length := by rw [← hSU]; exact HSu.out
  have hpn : (Utf.pts f n).length ≤ n := HLen.out
  clear hr hSU
  go_wp2_with fail
  go_loopg [1] ((Utf.pts f n).length) (fun rr sv wr => ∃ (k : Nat) (s' : ByteArray) (r1 r2 r3 : Option Addr) (q1 q2 q3 : Nat), rr = (Utf.pts f n).length - k ∧ sv = .string s' ∧ k ≤ (Utf.pts f n).length ∧ Hid (St s' (n - Sc.sm f n k) (Utf.sh f (Sc.sm f n k))) ∧ Hid (Pt w.heap.size (w.heap.size + 1) (min k SU) cl f n wr k (.slice r1 k q1) (.slice r2 k q2) (.slice r3 k q3)) ∧ Hid (Bx4 wr w.heap.size 61 (.slice none 0 0) (.slice none 0 0) (.slice none 0 0) (.int .i64 0)) ∧ Hid (Below w.heap.size w wr))
  case atStart => exact ⟨0, s, none, none, none, 0, 0, 0, rfl, rfl, by omega, by rw [Sc.sm_zero, Nat.sub_zero, Utf.sh_zero]; exact HS0, by rw [Nat.zero_min]; exact P0, K0, B1⟩
  case round =>
    obtain ⟨k, s', r1, r2, r3, q1, q2, q3, rfl, rfl, hk, HS, HP, HK, HB⟩ := hrel
    have hsz := HS.out.size
    by_cases hlt : k < (Utf.pts f n).length
    · obtain ⟨hdec, hsn⟩ := Sc.dec_at (f := f) (n := n) (k := k) hlt
      have hlt2 := Sc.sm_lt (f := f) (n := n) (j := k) (k := k + 1) (by omega) hlt
      have hle2 := Sc.sm_le f n (k + 1)
      have hne := HS.out.isEmpty_no (by omega)
      have hsu := (Sc.sm_sure (f := f) (n := n) (k := k + 1) (by omega))
      have hwhole := Sc.sm_whole f n
      rw [HSU.out, HR.out] at hwhole
      have HLT := hid hlt
      have HKey := hid (show (k < SU ↔ Sc.sm f n k < n - r) by
        rw [← hwhole]
        constructor
        · exact fun h => Sc.sm_lt h hsul
        · intro h
          rcases Nat.lt_or_ge k SU with h1 | h1
          · exact h1
          · have := Sc.sm_mono (f := f) (n := n) h1; omega)
      have HD := hid hdec
      obtain ⟨o, ho⟩ : ∃ o, Sc.sm f n k = o := ⟨_, rfl⟩
      obtain ⟨t, ht⟩ : ∃ t, Sc.sm f n (k + 1) - o = t := ⟨_, rfl⟩
      have HO := hid ho
      have HTt := hid ht
      obtain ⟨p, hp⟩ : ∃ p, Pr.it (Utf.pts f n) k = p := ⟨_, rfl⟩
      have HPp := hid hp
      rw [ho, ht, hp] at HD
      rw [ho] at HS hsz hsn HKey
      have ht1 : (t : Int) ≤ s'.size := by omega
      have ht0 : (0 : Int) ≤ t := by omega
      have htt : 1 ≤ t := by omega
      have hot : o + t ≤ n := by omega
      clear hdec hlt2 hle2 hsu hwhole ho ht hp hlt
      go_wp2_with fail
      refine (refDecode_calls _ _ _ true _ HS.out (by unfold maxLen; omega)).mono ?_
      rintro e w1 ⟨rfl, hb⟩
      rw [HD.out]
      unfold DA
      have P1 := hid (HP.out.below hb)
      have HK1 := hid (HK.out.below hb HK.out.lt)
      have HB1 := hid (HB.out.trans (hb.mono HB.out.size))
      clear hb HP HK HB HD
      by_cases hks : k < SU
      · have hgt : (r : Int) < s'.size := by have := HKey.out.1 hks; omega
        rw [show min k SU = k by omega] at P1
        have e1 : IntKind.i64.wrap ((k : Int) + 1) = k + 1 := i64_in (by omega) (by omega)
        have x3 := (P1.out.bx.alloc (.cells #[.int .i64 p, .int .i64 (t : Int), .bool false] 56)).cell3
        have f3 := (P1.out.bx.alloc (.cells #[.int .i64 p, .int .i64 (t : Int), .bool false] 56)).fr 3
        have PD := hid (show Pt w.heap.size (w.heap.size + 1) (k + 1) cl f n ((w1.alloc (.cells #[.int .i64 p, .int .i64 (t : Int), .bool false] 56)).setCell ⟨w.heap.size + 1, 3, none⟩ (.int .i64 ((k : Int) + 1))) k (.slice r1 k q1) (.slice r2 k q2) (.slice r3 k q3) from (P1.out.below ((Below.refl _ w1).alloc (Nat.le_refl _) _)).sure (k + 1))
        have MD := hid (show Mut (fun b => w.heap.size + 1 ≤ b) w1 ((w1.alloc (.cells #[.int .i64 p, .int .i64 (t : Int), .bool false] 56)).setCell ⟨w.heap.size + 1, 3, none⟩ (.int .i64 ((k : Int) + 1))) from ((Mut.refl _ w1).alloc _).setCell _ 3 _ (Nat.le_refl _))
        have DD := hid (show Db ((w1.alloc (.cells #[.int .i64 p, .int .i64 (t : Int), .bool false] 56)).setCell ⟨w.heap.size + 1, 3, none⟩ (.int .i64 ((k : Int) + 1))) w1.heap.size p t from Db.set (show Db _ _ _ _ from heap_alloc_new w1 _) (by have := P1.out.bx.lt; omega) _)
        have hWs : ((w1.alloc (.cells #[.int .i64 p, .int .i64 (t : Int), .bool false] 56)).setCell ⟨w.heap.size + 1, 3, none⟩ (.int .i64 ((k : Int) + 1))).heap.size = w1.heap.size + 1 := by simp [World.setCell]
        have x0 := PD.out.bx.cell0
        have z0 := PD.out.bx.fr 0
        have y0 := DD.out.c0
        have y1 := DD.out.c1
        go_wp2_with (at_builtin; refine wpList_append_src rfl _ _ 23 rfl (w.heap.size + 2) 3 i0 _ 1 8 Tryd.underlying23 hi0 hz0 hz1 hz2 rfl (by decide) (.slice r1 k q1) k (iv ((Utf.pts f n).take k)) rfl (PD.out.o1.alloc _) (some ⟨w1.heap.size + 1, 0, none⟩) 1 1 [.int .i64 p] rfl (Src.new #[.int .i64 p] 3 _ (by rw [hWs]) rfl (fun u hu => by simp at hu; subst hu; rfl)) (by unfold maxLen; omega) (by omega) (by have := PD.out.bx.lt; simp; omega) ?_)
        intro v4 w4 o4 g4 b4
        obtain ⟨r4, q4, rfl⟩ := own_sl1 o4
        have HO4 := hid o4
        have HG4 := hid g4
        have HB4 := hid (b4.imp id (fun e => e.trans (by rw [alloc_sz, hWs])) : (Value.slice r4 (k + 1) q4).ownBlock = (Value.slice r1 k q1).ownBlock ∨ (Value.slice r4 (k + 1) q4).ownBlock = some (((w1.alloc (.cells #[.int .i64 p, .int .i64 (t : Int), .bool false] 56)).setCell ⟨w.heap.size + 1, 3, none⟩ (.int .i64 ((k : Int) + 1))).alloc (.cells #[.int .i64 p] 3)).heap.size)
        have n1 := hid (own_block PD.out.o1 (Nat.lt_succ_self (w.heap.size + 1)))
        have X4 := hid (((PD.out.bx.alloc (.cells #[.int .i64 p] 3)).kept g4 (fun e => n1.out e.symm)).set0 (.slice r4 (k + 1) q4))
        have D4 := hid (((DD.out.alloc (.cells #[.int .i64 p] 3)).kept g4 (fun e => by have := (P1.out.o1.lt _ e.symm).2; omega)).set (B := w.heap.size + 1) (j := 0) (by have := P1.out.bx.lt; omega) (.slice r4 (k + 1) q4))
        have A12 := hid (PD.out.a12.new (v1' := .slice r4 (k + 1) q4) (N := (((w1.alloc (.cells #[.int .i64 p, .int .i64 (t : Int), .bool false] 56)).setCell ⟨w.heap.size + 1, 3, none⟩ (.int .i64 ((k : Int) + 1))).alloc (.cells #[.int .i64 p] 3)).heap.size) (fun g e => by have := (PD.out.o2.lt g e).2; rw [alloc_sz]; omega) HB4.out)
        have A13 := hid (PD.out.a13.new (v1' := .slice r4 (k + 1) q4) (N := (((w1.alloc (.cells #[.int .i64 p, .int .i64 (t : Int), .bool false] 56)).setCell ⟨w.heap.size + 1, 3, none⟩ (.int .i64 ((k : Int) + 1))).alloc (.cells #[.int .i64 p] 3)).heap.size) (fun g e => by have := (PD.out.o3.lt g e).2; rw [alloc_sz]; omega) HB4.out)
        have O24 := hid (own_set (j := 0) ((PD.out.o2.alloc (.cells #[.int .i64 p] 3)).kept g4 PD.out.a12.2) (own_block PD.out.o2 (Nat.lt_succ_self (w.heap.size + 1))) (.slice r4 (k + 1) q4))
        have O34 := hid (own_set (j := 0) ((PD.out.o3.alloc (.cells #[.int .i64 p] 3)).kept g4 PD.out.a13.2) (own_block PD.out.o3 (Nat.lt_succ_self (w.heap.size + 1))) (.slice r4 (k + 1) q4))
        have M4 := hid (((MD.out.alloc (.cells #[.int .i64 p] 3)).grown g4 (fun k e => by have := (PD.out.o1.lt k e).1; omega)).setCell (w.heap.size + 1) 0 (.slice r4 (k + 1) q4) (Nat.le_refl _))
        have sz4 := g4.size
        have x0' := (((PD.out.bx.alloc (.cells #[.int .i64 p] 3)).kept g4 (fun e => n1.out e.symm))).cell0
        have z0' := (((PD.out.bx.alloc (.cells #[.int .i64 p] 3)).kept g4 (fun e => n1.out e.symm))).fr 0
        clear o4 g4 b4 x0 z0 y0 y1
        go_wp2_with fail
        obtain ⟨W4, hW4⟩ : ∃ W, w4.setCell ⟨w.heap.size + 1, 0, none⟩ (.slice r4 (k + 1) q4) = W := ⟨_, rfl⟩
        rw [hW4] at X4 D4 O24 O34 M4 ⊢
        have B4 := hid (HB1.out.trans (M4.out.below (B := w.heap.size) HB1.out.size (fun k h => by omega)))
        have T4 := hid (HT.out.below B4.out)
        have HOf := hid (rof_calls ta tn tc L H C p _ (T4.out.below (Below.refl _ W4).drew))
        have hcv : Cl.cls L H C p 0 tn = cl p := by rw [HCl.out]
        rw [hcv] at HOf
        have z1 := X4.out.fr 1
        have x1 := X4.out.cell1
        have y0 := D4.out.c0
        obtain ⟨y, hy⟩ : ∃ y, cl p = y := ⟨_, rfl⟩
        rw [hy] at HOf
        have HY := hid hy
        have x1a := (X4.out.alloc (.cells #[.int .i64 y] 3)).cell1
        clear hy hcv
        go_region_law (first
          | (refine step_call_same (by rfl) 41 _ _ (by rfl) #[.slice ta tn tc, .int .i64 p] (by rfl) (by kernel_rfl) (.int .i64 y) HOf.out ?_)
          | (refine step_append_src (by rfl) _ _ _ (by rfl) (w.heap.size + 2) 3 i0 _ 1 8 Tryd.underlying23 hi0 hz0 hz1 hz2 rfl (by decide) (.slice r2 k q2) k (iv (((Utf.pts f n).take k).map cl)) (by rfl) ((O24.out.drew).alloc _) (some ⟨W4.heap.size, 0, none⟩) 1 1 [.int .i64 y] (by rfl) (Src.new (w := W4.drew) (m := 1) (size := 1) #[.int .i64 y] 3 W4.heap.size rfl rfl (fun u hu => by simp at hu; subst hu; rfl)) (by unfold maxLen; omega) (by omega) (by have := X4.out.lt; show _ ≤ (W4.alloc _).heap.size; rw [alloc_sz]; omega) ?_; intro v5 w5 o5 g5 b5; obtain ⟨r5, q5, rfl⟩ := own_sl1 o5; have X5 := hid (((X4.out.drew).alloc _).kept g5 (fun e => by have := (O24.out.lt _ e.symm).1; omega)); have x5 := X5.out.cell1; have z5 := X5.out.fr 1; have HO5 := hid o5; have HG5 := hid g5; have HB5 := hid b5; clear o5 g5 b5))
        all_goals
          have X6 := hid (X5.out.set1 (.slice r5 (k + 1) q5))
          have D6 := hid ((((D4.out.drew).alloc (.cells #[.int .i64 y] 3)).kept HG5.out (fun e => by have := (PD.out.o2.lt _ e.symm).2; have := P1.out.o2.lt _ e.symm; omega)).set (B := w.heap.size + 1) (j := 1) (by have := P1.out.bx.lt; omega) (.slice r5 (k + 1) q5))
          have O36 := hid (own_set (j := 1) (((O34.out.drew).alloc (.cells #[.int .i64 y] 3)).kept HG5.out PD.out.a23.2) (own_block PD.out.o3 (Nat.lt_succ_self (w.heap.size + 1))) (.slice r5 (k + 1) q5))
          obtain ⟨W6, hW6⟩ : ∃ W, w5.setCell ⟨w.heap.size + 1, 1, none⟩ (.slice r5 (k + 1) q5) = W := ⟨_, rfl⟩
          rw [hW6] at X6 D6 O36 ⊢
          have x2 := X6.out.cell2
          have z2 := X6.out.fr 2
          have y1 := D6.out.c1
          clear x0' z0' x1 y0 z1 x1a x5 z5
          go_wp2_with (at_builtin; refine wpList_append_src rfl _ _ 23 rfl (w.heap.size + 2) 3 i0 _ 1 8 Tryd.underlying23 hi0 hz0 hz1 hz2 rfl (by decide) (.slice r3 k q3) k (iv (ni ((Sc.lens f n).take k))) rfl (O36.out.alloc _) (some ⟨W6.heap.size, 0, none⟩) 1 1 [.int .i64 (t : Int)] rfl (Src.new #[.int .i64 (t : Int)] 3 _ rfl rfl (fun u hu => by simp at hu; subst hu; rfl)) (by unfold maxLen; omega) (by omega) (by have := X6.out.lt; simp; omega) ?_)
          intro v7 w7 o7 g7 b7
          obtain ⟨r7, q7, rfl⟩ := own_sl1 o7
          have n3 := hid (own_block PD.out.o3 (Nat.lt_succ_self (w.heap.size + 1)))
          have X7 := hid (((X6.out.alloc (.cells #[.int .i64 (t : Int)] 3)).kept g7 (fun e => n3.out e.symm)))
          have D7 := hid ((((D6.out.alloc (.cells #[.int .i64 (t : Int)] 3)).kept g7 (fun e => by have := P1.out.o3.lt _ e.symm; omega)).set (B := w.heap.size + 1) (j := 2) (by have := P1.out.bx.lt; omega) (.slice r7 (k + 1) q7)))
          have x7 := X7.out.cell2
          have z7 := X7.out.fr 2
          have y7 := D7.out.c1
          have HF := hid (pt_fin PD.out HLT.out HG4.out (by rw [HPp.out]; exact HO4.out) HB4.out hW4.symm HG5.out (by rw [HPp.out, HY.out]; exact HO5.out) HB5.out hW6.symm g7 (by rw [HO.out, HTt.out]; exact o7) (b7.imp id (fun e => e.trans (by simp))) rfl)
          clear o7 g7 b7 x2 z2 y1
          have HM := hid (MD.out.trans HF.out.2 (fun _ _ h => h))
          have HBB := hid (HB1.out.trans (HM.out.below (B := w.heap.size) HB1.out.size (fun k h => by have h : w.heap.size + 1 ≤ k := h; omega)))
          have HKK := hid (HK1.out.mut HM.out (fun h => by have h : w.heap.size + 1 ≤ w.heap.size := h; omega))
          go_wp2_with fail
          go_roundg ((Utf.pts f n).length - (k + 1))
          case measure => have := HLT.out; omega
          case rel => exact ⟨k + 1, _, r4, r5, r7, q4, q5, q7, rfl, rfl, HLT.out, hid (by rw [show Sc.sm f n (k + 1) = o + t by have := HTt.out; have := HO.out; have := Sc.sm_mono (f := f) (n := n) (j := k) (k := k + 1) (by omega); omega]; exact St.tail HS.out (by omega) (by omega)), hid (by rw [show min (k + 1) SU = (k + 1) by omega]; exact HF.out.1), HKK, HBB⟩

      · have hgt : ¬ (r : Int) < s'.size := by have h0 : ¬ o < n - r := fun h => hks (HKey.out.2 h); omega
        have hSK : min k SU = SU := by omega
        have PD := hid (show Pt w.heap.size (w.heap.size + 1) SU cl f n (w1.alloc (.cells #[.int .i64 p, .int .i64 (t : Int), .bool false] 56)) k (.slice r1 k q1) (.slice r2 k q2) (.slice r3 k q3) from by rw [← hSK]; exact P1.out.below ((Below.refl _ w1).alloc (Nat.le_refl _) _))
        have MD := hid (show Mut (fun b => w.heap.size + 1 ≤ b) w1 (w1.alloc (.cells #[.int .i64 p, .int .i64 (t : Int), .bool false] 56)) from (Mut.refl _ w1).alloc _)
        have DD := hid (show Db (w1.alloc (.cells #[.int .i64 p, .int .i64 (t : Int), .bool false] 56)) w1.heap.size p t from heap_alloc_new w1 _)
        have hWs : (w1.alloc (.cells #[.int .i64 p, .int .i64 (t : Int), .bool false] 56)).heap.size = w1.heap.size + 1 := by simp
        have x0 := PD.out.bx.cell0
        have z0 := PD.out.bx.fr 0
        have y0 := DD.out.c0
        have y1 := DD.out.c1
        go_wp2_with (at_builtin; refine wpList_append_src rfl _ _ 23 rfl (w.heap.size + 2) 3 i0 _ 1 8 Tryd.underlying23 hi0 hz0 hz1 hz2 rfl (by decide) (.slice r1 k q1) k (iv ((Utf.pts f n).take k)) rfl (PD.out.o1.alloc _) (some ⟨w1.heap.size + 1, 0, none⟩) 1 1 [.int .i64 p] rfl (Src.new #[.int .i64 p] 3 _ (by rw [hWs]) rfl (fun u hu => by simp at hu; subst hu; rfl)) (by unfold maxLen; omega) (by omega) (by have := PD.out.bx.lt; simp; omega) ?_)
        intro v4 w4 o4 g4 b4
        obtain ⟨r4, q4, rfl⟩ := own_sl1 o4
        have HO4 := hid o4
        have HG4 := hid g4
        have HB4 := hid (b4.imp id (fun e => e.trans (by rw [alloc_sz, hWs])) : (Value.slice r4 (k + 1) q4).ownBlock = (Value.slice r1 k q1).ownBlock ∨ (Value.slice r4 (k + 1) q4).ownBlock = some ((w1.alloc (.cells #[.int .i64 p, .int .i64 (t : Int), .bool false] 56)).alloc (.cells #[.int .i64 p] 3)).heap.size)
        have n1 := hid (own_block PD.out.o1 (Nat.lt_succ_self (w.heap.size + 1)))
        have X4 := hid (((PD.out.bx.alloc (.cells #[.int .i64 p] 3)).kept g4 (fun e => n1.out e.symm)).set0 (.slice r4 (k + 1) q4))
        have D4 := hid (((DD.out.alloc (.cells #[.int .i64 p] 3)).kept g4 (fun e => by have := (P1.out.o1.lt _ e.symm).2; omega)).set (B := w.heap.size + 1) (j := 0) (by have := P1.out.bx.lt; omega) (.slice r4 (k + 1) q4))
        have A12 := hid (PD.out.a12.new (v1' := .slice r4 (k + 1) q4) (N := ((w1.alloc (.cells #[.int .i64 p, .int .i64 (t : Int), .bool false] 56)).alloc (.cells #[.int .i64 p] 3)).heap.size) (fun g e => by have := (PD.out.o2.lt g e).2; rw [alloc_sz]; omega) HB4.out)
        have A13 := hid (PD.out.a13.new (v1' := .slice r4 (k + 1) q4) (N := ((w1.alloc (.cells #[.int .i64 p, .int .i64 (t : Int), .bool false] 56)).alloc (.cells #[.int .i64 p] 3)).heap.size) (fun g e => by have := (PD.out.o3.lt g e).2; rw [alloc_sz]; omega) HB4.out)
        have O24 := hid (own_set (j := 0) ((PD.out.o2.alloc (.cells #[.int .i64 p] 3)).kept g4 PD.out.a12.2) (own_block PD.out.o2 (Nat.lt_succ_self (w.heap.size + 1))) (.slice r4 (k + 1) q4))
        have O34 := hid (own_set (j := 0) ((PD.out.o3.alloc (.cells #[.int .i64 p] 3)).kept g4 PD.out.a13.2) (own_block PD.out.o3 (Nat.lt_succ_self (w.heap.size + 1))) (.slice r4 (k + 1) q4))
        have M4 := hid (((MD.out.alloc (.cells #[.int .i64 p] 3)).grown g4 (fun k e => by have := (PD.out.o1.lt k e).1; omega)).setCell (w.heap.size + 1) 0 (.slice r4 (k + 1) q4) (Nat.le_refl _))
        have sz4 := g4.size
        have x0' := (((PD.out.bx.alloc (.cells #[.int .i64 p] 3)).kept g4 (fun e => n1.out e.symm))).cell0
        have z0' := (((PD.out.bx.alloc (.cells #[.int .i64 p] 3)).kept g4 (fun e => n1.out e.symm))).fr 0
        clear o4 g4 b4 x0 z0 y0 y1
        go_wp2_with fail
        obtain ⟨W4, hW4⟩ : ∃ W, w4.setCell ⟨w.heap.size + 1, 0, none⟩ (.slice r4 (k + 1) q4) = W := ⟨_, rfl⟩
        rw [hW4] at X4 D4 O24 O34 M4 ⊢
        have B4 := hid (HB1.out.trans (M4.out.below (B := w.heap.size) HB1.out.size (fun k h => by omega)))
        have T4 := hid (HT.out.below B4.out)
        have HOf := hid (rof_calls ta tn tc L H C p _ (T4.out.below (Below.refl _ W4).drew))
        have hcv : Cl.cls L H C p 0 tn = cl p := by rw [HCl.out]
        rw [hcv] at HOf
        have z1 := X4.out.fr 1
        have x1 := X4.out.cell1
        have y0 := D4.out.c0
        obtain ⟨y, hy⟩ : ∃ y, cl p = y := ⟨_, rfl⟩
        rw [hy] at HOf
        have HY := hid hy
        have x1a := (X4.out.alloc (.cells #[.int .i64 y] 3)).cell1
        clear hy hcv
        go_region_law (first
          | (refine step_call_same (by rfl) 41 _ _ (by rfl) #[.slice ta tn tc, .int .i64 p] (by rfl) (by kernel_rfl) (.int .i64 y) HOf.out ?_)
          | (refine step_append_src (by rfl) _ _ _ (by rfl) (w.heap.size + 2) 3 i0 _ 1 8 Tryd.underlying23 hi0 hz0 hz1 hz2 rfl (by decide) (.slice r2 k q2) k (iv (((Utf.pts f n).take k).map cl)) (by rfl) ((O24.out.drew).alloc _) (some ⟨W4.heap.size, 0, none⟩) 1 1 [.int .i64 y] (by rfl) (Src.new (w := W4.drew) (m := 1) (size := 1) #[.int .i64 y] 3 W4.heap.size rfl rfl (fun u hu => by simp at hu; subst hu; rfl)) (by unfold maxLen; omega) (by omega) (by have := X4.out.lt; show _ ≤ (W4.alloc _).heap.size; rw [alloc_sz]; omega) ?_; intro v5 w5 o5 g5 b5; obtain ⟨r5, q5, rfl⟩ := own_sl1 o5; have X5 := hid (((X4.out.drew).alloc _).kept g5 (fun e => by have := (O24.out.lt _ e.symm).1; omega)); have x5 := X5.out.cell1; have z5 := X5.out.fr 1; have HO5 := hid o5; have HG5 := hid g5; have HB5 := hid b5; clear o5 g5 b5))
        all_goals
          have X6 := hid (X5.out.set1 (.slice r5 (k + 1) q5))
          have D6 := hid ((((D4.out.drew).alloc (.cells #[.int .i64 y] 3)).kept HG5.out (fun e => by have := (PD.out.o2.lt _ e.symm).2; have := P1.out.o2.lt _ e.symm; omega)).set (B := w.heap.size + 1) (j := 1) (by have := P1.out.bx.lt; omega) (.slice r5 (k + 1) q5))
          have O36 := hid (own_set (j := 1) (((O34.out.drew).alloc (.cells #[.int .i64 y] 3)).kept HG5.out PD.out.a23.2) (own_block PD.out.o3 (Nat.lt_succ_self (w.heap.size + 1))) (.slice r5 (k + 1) q5))
          obtain ⟨W6, hW6⟩ : ∃ W, w5.setCell ⟨w.heap.size + 1, 1, none⟩ (.slice r5 (k + 1) q5) = W := ⟨_, rfl⟩
          rw [hW6] at X6 D6 O36 ⊢
          have x2 := X6.out.cell2
          have z2 := X6.out.fr 2
          have y1 := D6.out.c1
          clear x0' z0' x1 y0 z1 x1a x5 z5
          go_wp2_with (at_builtin; refine wpList_append_src rfl _ _ 23 rfl (w.heap.size + 2) 3 i0 _ 1 8 Tryd.underlying23 hi0 hz0 hz1 hz2 rfl (by decide) (.slice r3 k q3) k (iv (ni ((Sc.lens f n).take k))) rfl (O36.out.alloc _) (some ⟨W6.heap.size, 0, none⟩) 1 1 [.int .i64 (t : Int)] rfl (Src.new #[.int .i64 (t : Int)] 3 _ rfl rfl (fun u hu => by simp at hu; subst hu; rfl)) (by unfold maxLen; omega) (by omega) (by have := X6.out.lt; simp; omega) ?_)
          intro v7 w7 o7 g7 b7
          obtain ⟨r7, q7, rfl⟩ := own_sl1 o7
          have n3 := hid (own_block PD.out.o3 (Nat.lt_succ_self (w.heap.size + 1)))
          have X7 := hid (((X6.out.alloc (.cells #[.int .i64 (t : Int)] 3)).kept g7 (fun e => n3.out e.symm)))
          have D7 := hid ((((D6.out.alloc (.cells #[.int .i64 (t : Int)] 3)).kept g7 (fun e => by have := P1.out.o3.lt _ e.symm; omega)).set (B := w.heap.size + 1) (j := 2) (by have := P1.out.bx.lt; omega) (.slice r7 (k + 1) q7)))
          have x7 := X7.out.cell2
          have z7 := X7.out.fr 2
          have y7 := D7.out.c1
          have HF := hid (pt_fin PD.out HLT.out HG4.out (by rw [HPp.out]; exact HO4.out) HB4.out hW4.symm HG5.out (by rw [HPp.out, HY.out]; exact HO5.out) HB5.out hW6.symm g7 (by rw [HO.out, HTt.out]; exact o7) (b7.imp id (fun e => e.trans (by simp))) rfl)
          clear o7 g7 b7 x2 z2 y1
          have HM := hid (MD.out.trans HF.out.2 (fun _ _ h => h))
          have HBB := hid (HB1.out.trans (HM.out.below (B := w.heap.size) HB1.out.size (fun k h => by have h : w.heap.size + 1 ≤ k := h; omega)))
          have HKK := hid (HK1.out.mut HM.out (fun h => by have h : w.heap.size + 1 ≤ w.heap.size := h; omega))
          go_wp2_with fail
          go_roundg ((Utf.pts f n).length - (k + 1))
          case measure => have := HLT.out; omega
          case rel => exact ⟨k + 1, _, r4, r5, r7, q4, q5, q7, rfl, rfl, HLT.out, hid (by rw [show Sc.sm f n (k + 1) = o + t by have := HTt.out; have := HO.out; have := Sc.sm_mono (f := f) (n := n) (j := k) (k := k + 1) (by omega); omega]; exact St.tail HS.out (by omega) (by omega)), hid (by rw [show min (k + 1) SU = SU by omega]; exact HF.out.1), HKK, HBB⟩

    · obtain rfl : k = (Utf.pts f n).length := by omega
      have hS := HS.out
      rw [Sc.sm_all (Nat.le_refl _), Nat.sub_self] at hS
      have hne := hS.isEmpty_yes
      have d0 := HP.out.bx.cell0
      have d1 := HP.out.bx.cell1
      have d2 := HP.out.bx.cell2
      have d3 := HP.out.bx.cell3
      have k0 := HK.out.cell0
      have k1 := HK.out.cell1
      have k2 := HK.out.cell2
      have k3 := HK.out.cell3
      have g0 := HK.out.fr 0
      have g1 := HK.out.fr 1
      have g2 := HK.out.fr 2
      have g3 := HK.out.fr 3
      rw [show min (Utf.pts f n).length SU = SU by omega] at HP d3
      obtain ⟨N, hN⟩ : ∃ N, (Utf.pts f n).length = N := ⟨_, rfl⟩
      have HN := hid hN
      obtain ⟨y1, y2, y3, y4⟩ := r4_all HK.out (.slice r1 N q1) (.slice r2 N q2) (.slice r3 N q3) (.int .i64 (SU : Int))
      have r0 := y4.cell0
      have r1' := y4.cell1
      have r2' := y4.cell2
      have r3' := y4.cell3
      rw [hN] at HP d0 d1 d2
      have HL := hid (show Lm ((((wr.setCell ⟨w.heap.size, 0, none⟩ (.slice r1 N q1)).setCell ⟨w.heap.size, 1, none⟩ (.slice r2 N q2)).setCell ⟨w.heap.size, 2, none⟩ (.slice r3 N q3)).setCell ⟨w.heap.size, 3, none⟩ (.int .i64 (SU : Int))) (.agg #[.slice r1 N q1, .slice r2 N q2, .slice r3 N q3, .int .i64 (SU : Int)]) cl (Utf.pts f n) (Sc.lens f n) (Sc.sure f n) from by
        have hb : w.heap.size < w.heap.size + 1 + 1 := by omega
        have o1 := r4_own HP.out.o1 hb (.slice r1 N q1) (.slice r2 N q2) (.slice r3 N q3) (.int .i64 (SU : Int))
        have o2 := r4_own HP.out.o2 hb (.slice r1 N q1) (.slice r2 N q2) (.slice r3 N q3) (.int .i64 (SU : Int))
        have o3 := r4_own HP.out.o3 hb (.slice r1 N q1) (.slice r2 N q2) (.slice r3 N q3) (.int .i64 (SU : Int))
        have hll := Sc.lens_len f n
        have hN := HN.out
        rw [List.take_of_length_le (by omega)] at o1 o2 o3
        exact ⟨⟨r1, N, q1, r2, N, q2, r3, N, q3, by rw [HSU.out], Ir.ofOwn' o1, Ir.ofOwn' o2, Ir.ofOwn' o3⟩, by omega⟩)
      have HBB := hid (r4_below HB.out (Nat.le_refl _) (.slice r1 N q1) (.slice r2 N q2) (.slice r3 N q3) (.int .i64 (SU : Int)))
      clear hS hN y1 y2 y3 y4
      go_wp2_with fail
      refine bodyPost_ret (v := .agg #[.slice r1 N q1, .slice r2 N q2, .slice r3 N q3, .int .i64 (SU : Int)]) (by simp [results, Tryd.results30, go_sem, r0, r1', r2', r3']) rfl ?_
      exact ⟨_, rfl, HL.out, HBB.out⟩
end Go.Proofs.YtiheagkgpbkkfaaDoor
