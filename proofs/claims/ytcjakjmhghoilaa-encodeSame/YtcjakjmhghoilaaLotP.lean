/-
  Several texts in one: PrMap, PrNew, PrFind, PrBest, PrJoin, PrStep, PrRef, PrRefB.
-/
import Derived.Test.YtcjakjmhghoilaaLotW
import Derived.Test.YtcjakjmhghoilaaLotG
import Derived.Maps.OwnSet
import Derived.DeepKeys5
import Derived.Deep.RegionHeld3
import Derived.Deep.QuietTactic
import Derived.BigQuiet
/-
  Merges in a map, by their two tokens; a table in memory.
-/
namespace Go.Proofs.Ytcjakjmhghoilaa
open Go.RowKit Go.Maps
set_option linter.unusedVariables false

theorem Try.rowPp : (76 : TypeId) < Try.prog.types.size := of_decide_eq_true (by kernel_rfl)
theorem Try.cellsPp : Try.prog.cellsOf 76 = 2 := by kernel_rfl
theorem Try.keyPp3 : Try.prog.keyTypeAt 3 76 = true := by kernel_rfl
theorem Try.keyedP : Keyed Try.prog 76 := by
  refine Keyed.of_law (deep_law_laid Try.laidOut (m := 3) (by omega) Try.rowPp Try.keyPp3 ?_)
  rw [Try.underlying76]
theorem Try.formedPp {c0 c1 : Value} : (Value.agg #[c0, c1]).formed Try.prog 76 = true := by simp [Value.formed, Try.underlying76, Try.cellsPp]
theorem Try.keyTyP : Try.prog.keyType 76 = true := by kernel_rfl
theorem key_pp (l r : Int) (hl : (Lit.int .i64 l).wf = true) (hr : (Lit.int .i64 r).wf = true) : ∃ kl, keyOf Try.prog 76 (.agg #[.int .i64 l, .int .i64 r]) = some kl := by
  obtain ⟨d, hd⟩ := Try.sizeTy
  have h := keyLits_two (d := d) Try.underlying76 Try.underlying3 rfl rfl rfl rfl (by decide) (by decide) Try.cellsPp Try.cellsI hl hr
  refine ⟨.string (keyBytes [.int .i64 l, .int .i64 r]), ?_⟩
  unfold keyOf
  rw [Try.underlying76]
  show (if (Try.prog.keyType 76 && (Value.agg #[.int .i64 l, .int .i64 r]).formed Try.prog 76) = true then (Try.prog.keyLits (Try.prog.types.size + 1) 76 [.int .i64 l, .int .i64 r]).map fun ls => Lit.string (keyBytes ls) else none) = _
  rw [Try.keyTyP, Try.formedPp, if_pos (by rfl), hd, h]
  rfl
theorem Try.zeroM (w : World) : (zeroValue 50).run Try.prog w = .ok (.agg #[.int .i64 0, .int .i64 0, .int .i64 0, .int .i64 0]) w := by kernel_rfl

/-- A merge as a value, and how it reads. -/
def vm (m : Mg4) : Value := .agg #[.int .i64 m.1, .int .i64 m.2.1, .int .i64 m.2.2.1, .int .i64 m.2.2.2]
def lm (m : Mg4) : DataW Unit := .agg [.lit (.int .i64 m.1), .lit (.int .i64 m.2.1), .lit (.int .i64 m.2.2.1), .lit (.int .i64 m.2.2.2)]
def mgElem (v : Value) : Option (DataW Unit × List MemPlace) :=
  match v with
  | .agg xs => (match xs.toList with | [.int .i64 a, .int .i64 b, .int .i64 c, .int .i64 d] => some (lm (a, b, c, d), []) | _ => none)
  | _ => none
theorem mgElem_mk (m : Mg4) : mgElem (vm m) = some (lm m, []) := rfl
theorem mgElem_inv {v : Value} {z : DataW Unit × List MemPlace} (h : mgElem v = some z) : ∃ m, v = vm m ∧ z = (lm m, []) := by
  cases v with
  | agg xs =>
    obtain ⟨l⟩ := xs
    match l, h with
    | [.int .i64 a, .int .i64 b, .int .i64 c, .int .i64 d], h => exact ⟨(a, b, c, d), rfl, (Option.some.inj h).symm⟩
  | _ => simp [mgElem] at h
theorem lm_inj {a b : Mg4} (h : lm a = lm b) : a = b := by
  obtain ⟨a1, a2, a3, a4⟩ := a
  obtain ⟨b1, b2, b3, b4⟩ := b
  simp only [lm, DataW.agg.injEq, List.cons.injEq, DataW.lit.injEq, Lit.int.injEq, true_and, and_true] at h
  obtain ⟨rfl, rfl, rfl, rfl⟩ := h
  rfl
theorem atKey_gone {H : Type} {D : DataW H} (hD : IsMap D) {k : Lit} (h : Maps.has D k = false) (z : DataW H) : D.atKey k z = z := by
  obtain ⟨es, rfl⟩ := hD
  simp only [DataW.atKey]
  cases hf : es.find? (fun p => p.1.sameKey k) with
  | none => rfl
  | some p =>
    have h1 := List.mem_of_find?_eq_some hf
    have h2 := List.find?_some hf
    simp only [Maps.has] at h
    exact absurd (List.any_eq_true.2 ⟨p, h1, h2⟩) (by rw [h]; decide)

/-- What a map says of the first j merges. -/
def MgD (ms : List Mg4) (j : Nat) (D : DataW Unit) : Prop := ∀ l r kl, keyOf Try.prog 76 (.agg #[.int .i64 l, .int .i64 r]) = some kl →
  (Maps.has D kl = true ↔ ∃ i, i < j ∧ (mat ms i).1 = l ∧ (mat ms i).2.1 = r) ∧ ∀ i, i < j → (mat ms i).1 = l → (mat ms i).2.1 = r → ∀ z, D.atKey kl z = lm (mat ms i)
def MgIn (w : World) (M : Nat) (ms : List Mg4) (j : Nat) : Prop :=
  ∃ (m : Nat) (D : DataW Unit), m ≤ j ∧ w.ownsMap Try.prog 76 mgElem M m D ∧ MgD ms j D
theorem MgIn.below {w w' : World} {M j N : Nat} {ms : List Mg4} (h : MgIn w M ms j) (hb : Below N w w') (hn : M < N) : MgIn w' M ms j := by
  obtain ⟨m, D, hm, ho, hd⟩ := h
  exact ⟨m, D, hm, owns_below ho hb hn, hd⟩
theorem MgIn.alloc {w : World} {M j : Nat} {ms : List Mg4} (h : MgIn w M ms j) (o : Obj) : MgIn (w.alloc o) M ms j := by
  obtain ⟨m, D, hm, ho, hd⟩ := h
  exact ⟨m, D, hm, ho.alloc o, hd⟩
theorem MgIn.lt {w : World} {M j : Nat} {ms : List Mg4} (h : MgIn w M ms j) : M < w.heap.size := by
  obtain ⟨m, D, hm, ho, hd⟩ := h
  exact ho.lt
theorem mgIn_none (w : World) (ms : List Mg4) : MgIn (w.alloc (.map #[] 0)) w.heap.size ms 0 :=
  ⟨0, _, Nat.le_refl _, World.ownsMap_made w _ _ _, fun l r kl _ => ⟨⟨fun h => by simp [Maps.has] at h, fun ⟨i, hi, _⟩ => by omega⟩, fun i hi => by omega⟩⟩
theorem mgD_put {ms : List Mg4} {j : Nat} {D : DataW Unit} (hD : IsMap D) (hd : MgD ms j D) (hap : ∀ i, i < j → ¬ ((mat ms i).1 = (mat ms j).1 ∧ (mat ms i).2.1 = (mat ms j).2.1)) {kl : Lit}
    (hk : keyOf Try.prog 76 (.agg #[.int .i64 (mat ms j).1, .int .i64 (mat ms j).2.1]) = some kl) : MgD ms (j + 1) (D.put kl (lm (mat ms j))) := by
  intro l r kl' hk'
  by_cases he : kl' = kl
  · subst he
    have h := Try.keyedP.inj hk hk'
    simp only [Value.agg.injEq, Array.mk.injEq, List.cons.injEq, Value.int.injEq, true_and, and_true] at h
    obtain ⟨e1, e2⟩ := h
    have hkk := Try.keyedP.key hk
    refine ⟨⟨fun _ => ⟨j, by omega, e1, e2⟩, fun _ => has_put_same hD hkk _⟩, fun i hi h1 h2 z => ?_⟩
    rw [atKey_put_same hD hkk]
    by_cases hij : i = j
    · rw [hij]
    · exact absurd ⟨h1.trans e1.symm, h2.trans e2.symm⟩ (hap i (by omega))
  · rw [has_put_other he]
    obtain ⟨g1, g2⟩ := hd l r kl' hk'
    refine ⟨⟨fun h => ?_, fun ⟨i, hi, h1, h2⟩ => ?_⟩, fun i hi h1 h2 z => ?_⟩
    · obtain ⟨i, hi, h⟩ := g1.1 h
      exact ⟨i, by omega, h⟩
    · refine g1.2 ⟨i, ?_, h1, h2⟩
      by_cases hij : i < j
      · exact hij
      · obtain rfl : i = j := by omega
        rw [h1, h2] at hk
        exact absurd (Option.some.inj (hk'.symm.trans hk)) he
    · rw [atKey_put_other he]
      refine g2 i ?_ h1 h2 z
      by_cases hij : i < j
      · exact hij
      · obtain rfl : i = j := by omega
        rw [h1, h2] at hk
        exact absurd (Option.some.inj (hk'.symm.trans hk)) he

/-- What a look-up says. -/
theorem MgIn.look {w : World} {M : Nat} {ms : List Mg4} (h : MgIn w M ms ms.length) (l r : Int) (hl : (Lit.int .i64 l).wf = true) (hr : (Lit.int .i64 r).wf = true) :
    (Instr.lookup 74 (.map (some M)) (.agg #[.int .i64 l, .int .i64 r]) true).run Try.prog w = .ok (.tuple #[vm (Pr.fm ms l r), .bool (Pr.fb ms l r)]) w := by
  obtain ⟨m, D, hm, ho, hd⟩ := h
  obtain ⟨kl, hkl⟩ := key_pp l r hl hr
  obtain ⟨v, ps, hrun, hv⟩ := ho.look_ok Try.keyedP Try.underlying74 (Try.zeroM w) (mgElem_mk (0, 0, 0, 0)) hkl
  obtain ⟨m', rfl, hz⟩ := mgElem_inv hv
  obtain ⟨g1, g2⟩ := hd l r kl hkl
  have hz1 := congrArg Prod.fst hz
  simp only at hz1
  rw [hrun]
  cases hf : Pr.fnd ms l r with
  | some k =>
    obtain ⟨hk, h1, h2⟩ := Pr.fnd_some hf
    have e1 : Maps.has D kl = true := g1.2 ⟨k, hk, h1, h2⟩
    rw [g2 k hk h1 h2] at hz1
    have e2 := lm_inj hz1
    have e3 : Pr.fm ms l r = mat ms k := by unfold Pr.fm; rw [hf]
    have e4 : Pr.fb ms l r = true := by unfold Pr.fb; rw [hf]; rfl
    rw [e1, e3, e4, e2]
  | none =>
    have e1 : Maps.has D kl = false := by
      cases hh : Maps.has D kl with
      | false => rfl
      | true =>
        obtain ⟨i, hi, h1, h2⟩ := g1.1 hh
        exact absurd ⟨h1, h2⟩ (Pr.fnd_none hf i hi)
    rw [atKey_gone ho.isMap e1] at hz1
    have e2 : (0, 0, 0, 0) = m' := lm_inj hz1
    have e3 : Pr.fm ms l r = (0, 0, 0, 0) := by unfold Pr.fm; rw [hf]
    have e4 : Pr.fb ms l r = false := by unfold Pr.fb; rw [hf]; rfl
    rw [e1, e3, e4, e2]

/-- A table in memory. -/
def TbIn (w : World) (B : Nat) (ms : List Mg4) : Prop := ∃ M, w.cell? ⟨B, 0, none⟩ = some (.map (some M)) ∧ MgIn w M ms ms.length
theorem TbIn.lt {w : World} {B : Nat} {ms : List Mg4} (h : TbIn w B ms) : B < w.heap.size := by
  obtain ⟨M, h1, _⟩ := h
  exact World.block_lt_of_cell? _ _ h1
theorem TbIn.below {w w' : World} {B : Nat} {ms : List Mg4} (h : TbIn w B ms) (hb : Below w.heap.size w w') : TbIn w' B ms := by
  have hl := h.lt
  obtain ⟨M, h1, h2⟩ := h
  exact ⟨M, by rw [hb.cell (p := ⟨B, 0, none⟩) hl]; exact h1, h2.below hb h2.lt⟩
end Go.Proofs.Ytcjakjmhghoilaa

/-
  Walk of pair.New.
-/
namespace Go.Proofs.Ytcjakjmhghoilaa
open Go.RowKit Go.Maps
set_option linter.unusedVariables false

theorem run_makeMap_hint {P : Program} {t k e : TypeId} (ht : P.underlying t = some (.map k e)) (q : IntKind) (n : Int) (w : World) : (Instr.makeMap t (some (.int q n))).run P w = .ok (.map (some w.heap.size)) (w.alloc (.map #[] 0)) := by
  simp [Instr.makeMap, run_underlying ht, asInt, asIntOf, Result.andThen]
/-- What New answers. -/
def NwOut (ts : Vc.Toks) (ms : List Mg4) (sp : Vc.Sps) (e : Ending) (w' : World) : Prop :=
  (Vc.May ts ms sp ∧ ∃ B, e = .returned (.tuple #[.pointer (some ⟨B, 0, none⟩), .int .i64 0]) ∧ TbIn w' B ms) ∨ (¬ Vc.May ts ms sp ∧ e = .returned (.tuple #[.pointer none, .int .i64 2]))
theorem is_wf {ts : Vc.Toks} {k : Int} (hT : Vc.MayT ts) (h : Vc.Is ts k) : (Lit.int .i64 k).wf = true := wf_in h.1 (Int.lt_of_lt_of_le h.2.1 (by have := hT.len; omega))

set_option maxRecDepth 100000 in
set_option maxHeartbeats 3200000 in
theorem new_calls {w : World} {a am az : Option Addr} {n c nm cm ns cs : Nat} {ts : Vc.Toks} {ms : List Mg4} {sp : Vc.Sps} (V : Vo w a n c am nm cm az ns cs ts ms sp) (hz : ∀ i, i < n → (at_ ts i).size ≤ maxLen) :
    Calls Try.prog 17 #[.agg #[.slice a n c, .slice am nm cm, .slice az ns cs]] w fun e w' => NwOut ts ms sp e w' ∧ Below w.heap.size w w' := by
  have hlm := V.M.len
  have B0 := hid ((Below.refl w.heap.size w).alloc (Nat.le_refl _) (.cells #[.slice a n c, .slice am nm cm, .slice az ns cs] 26))
  have X0 := hid (Bx3.new w 26 (.slice a n c) (.slice am nm cm) (.slice az ns cs))
  have V0 := hid (V.below B0.out)
  have MW := hid V.M
  have HZ := hid hz
  clear V hz
  have hmm := run_makeMap_hint Try.underlying74
  have x0 := X0.out.cell0
  have x1 := X0.out.cell1
  have x2 := X0.out.cell2
  go_enter Try.func17, Try.ntmps17
  go_wp2_with fail
  refine (may_calls V0.out HZ.out).mono ?_
  rintro e w1 ⟨⟨t, rfl, ht⟩, b1⟩
  have HT := hid ht
  have X1 := hid (X0.out.below b1 X0.out.lt)
  have B1 := hid (B0.out.trans (b1.mono B0.out.size))
  clear ht b1 X0 V0 B0 x0 x1 x2
  cases t
  · have HN := hid (show ¬ Vc.May ts ms sp from fun h => absurd (HT.out.2 h) (by decide))
    go_wp2_with fail
    go_ret2
    exact ⟨.inr ⟨HN.out, rfl⟩, B1.out⟩
  have HM := hid (HT.out.1 rfl)
  clear HT
  have hnm : nm ≤ 16384 := by have := HM.out.M.len; omega
  have X2 := hid (X1.out.alloc (.map #[] 0))
  have B2 := hid (B1.out.alloc B1.out.size (.map #[] 0))
  have S2 := hid (mgIn_none w1 ms)
  have hK0 := B1.out.size
  have x1 := X1.out.cell1
  have x21 := X2.out.cell1
  clear X1 B1
  go_wp2_with fail
  obtain ⟨K, hK⟩ : ∃ K, w1.heap.size = K := ⟨_, rfl⟩
  rw [hK] at S2 hK0 ⊢
  clear hK x1
  go_loopg [17] nm (fun r iv wr => ∃ j : Nat, r = nm - j ∧ iv = .int .i64 (j : Int) ∧ j ≤ nm ∧ Hid (MgIn wr K ms j) ∧ Hid (Below w.heap.size w wr))
  case atStart => exact ⟨0, rfl, rfl, by omega, S2, B2⟩
  case round =>
    obtain ⟨j, rfl, rfl, hj, HS, HB⟩ := hrel
    by_cases hlt : j < nm
    · have k1 : (j : Int) < nm := by omega
      have k0 : (0 : Int) ≤ j := by omega
      have e2 : IntKind.i64.wrap ((j : Int) + 1) = j + 1 := i64_in (by omega) (by omega)
      obtain ⟨b, off, rfl, hbl, hc⟩ := (MW.out.below HB.out).at' (by omega)
      obtain ⟨p0, p1, p2, p3⟩ := hc j hlt
      have hok := HM.out.M.ok j (by omega)
      have wl := is_wf HM.out.T hok.1
      have wr' := is_wf HM.out.T hok.2.1
      have hap : ∀ i, i < j → ¬ ((mat ms i).1 = (mat ms j).1 ∧ (mat ms i).2.1 = (mat ms j).2.1) := fun i hi => (HM.out.M.both i j hi (by omega)).2.1
      obtain ⟨kl, hkl⟩ := key_pp _ _ wl wr'
      have HKl := hid hkl
      have HP := hid (show ∀ D : DataW Unit, IsMap D → MgD ms j D → MgD ms (j + 1) (D.put kl (lm (mat ms j))) from fun D hD hd => mgD_put hD hd hap hkl)
      obtain ⟨⟨x0, x1, x2, x3⟩, hx⟩ : ∃ x, mat ms j = x := ⟨_, rfl⟩
      rw [hx] at p0 p1 p2 p3 HKl HP
      clear hc hx hok wl wr' hap hkl
      have Y3 := hid (Bx4.new wr 50 (.int .i64 x0) (.int .i64 x1) (.int .i64 x2) (.int .i64 x3))
      have B3 := hid (HB.out.alloc HB.out.size (.cells #[.int .i64 x0, .int .i64 x1, .int .i64 x2, .int .i64 x3] 50))
      have S3 := hid (HS.out.alloc (.cells #[.int .i64 x0, .int .i64 x1, .int .i64 x2, .int .i64 x3] 50))
      have y0 := Y3.out.cell0
      have y1 := Y3.out.cell1
      have y2 := Y3.out.cell2
      have y3 := Y3.out.cell3
      obtain ⟨m, D, hmj, ho, hd⟩ := S3.out
      have HD := hid hd
      have HOw := hid ho
      clear S3 hd ho
      go_wp2_with (at_mapUpdate; go_must (refine wpList_mapUpdate_own _ rfl _ _ _ 74 rfl 76 50 Try.keyedP Try.underlying74 mgElem K m _ rfl HOw.out (by unfold maxLen; omega) _ _ _ rfl rfl HKl.out (lm (x0, x1, x2, x3)) [] rfl ?_); intro w7 o7 g7; have O7 := hid o7; have G7 := hid g7; clear o7 g7)
      go_roundg (nm - (j + 1))
      case measure => omega
      case rel => exact ⟨j + 1, rfl, by go_num, by omega, hid ⟨m + 1, _, by omega, O7.out, HP.out _ HOw.out.isMap HD.out⟩, hid (B3.out.grown G7.out B3.out.size (fun k hk => by simp at hk; omega))⟩
    · have hjn : nm = j := by omega
      have k1 : ¬ ((j : Int) < nm) := by omega
      have hlen : ms.length = j := by omega
      have S4 := hid (show MgIn wr K ms ms.length from by rw [hlen]; exact HS.out)
      clear hlen hjn HS
      have Q := hid (show TbIn (wr.alloc (.cells #[.map (some K)] 78)) wr.heap.size ms from ⟨K, by have h := heap_alloc_new wr (Obj.cells #[.map (some K)] 78); simp only [World.cell?, h]; rfl, S4.out.alloc _⟩)
      have B4 := hid (HB.out.alloc HB.out.size (.cells #[.map (some K)] 78))
      go_wp2_with fail
      go_ret2
      exact ⟨.inl ⟨HM.out, _, rfl, Q.out⟩, B4.out⟩
end Go.Proofs.Ytcjakjmhghoilaa

/-
  Walks of a table's Find, and of the reference's.
-/
namespace Go.Proofs.Ytcjakjmhghoilaa
open Go.RowKit Go.Maps
set_option linter.unusedVariables false

/-- All four cells of a block written. -/
def quad (W : World) (R : Nat) (x y z u : Value) : World := (((W.setCell ⟨R, 0, none⟩ x).setCell ⟨R, 1, none⟩ y).setCell ⟨R, 2, none⟩ z).setCell ⟨R, 3, none⟩ u
theorem ret_quad {W : World} {R : Nat} {t : TypeId} {a b c d : Value} (X : Bx4 W R t a b c d) (x y z u : Value) :
    Bx4 (W.setCell ⟨R, 0, none⟩ x) R t x b c d ∧ Bx4 ((W.setCell ⟨R, 0, none⟩ x).setCell ⟨R, 1, none⟩ y) R t x y c d ∧ Bx4 (((W.setCell ⟨R, 0, none⟩ x).setCell ⟨R, 1, none⟩ y).setCell ⟨R, 2, none⟩ z) R t x y z d ∧ Bx4 (quad W R x y z u) R t x y z u :=
  have h1 := X.set0 x
  have h2 := h1.set1 y
  have h3 := h2.set2 z
  ⟨h1, h2, h3, h3.set3 u⟩
theorem below_quad {w W : World} {n R : Nat} (h : Below n w W) (hR : n ≤ R) (x y z u : Value) : Below n w (quad W R x y z u) :=
  (((h.setCell (p := ⟨R, 0, none⟩) hR x).setCell (p := ⟨R, 1, none⟩) hR y).setCell (p := ⟨R, 2, none⟩) hR z).setCell (p := ⟨R, 3, none⟩) hR u

set_option maxRecDepth 100000 in
set_option maxHeartbeats 3200000 in
theorem find_calls {w : World} {B : Nat} {ms : List Mg4} (T : TbIn w B ms) (l r : Int) (hl : (Lit.int .i64 l).wf = true) (hr : (Lit.int .i64 r).wf = true) :
    Calls Try.prog 25 #[.pointer (some ⟨B, 0, none⟩), .int .i64 l, .int .i64 r] w fun e w' => e = .returned (.tuple #[vm (Pr.fm ms l r), .bool (Pr.fb ms l r)]) ∧ Below w.heap.size w w' := by
  obtain ⟨M, hB, hM⟩ := T
  obtain ⟨W, hW⟩ : ∃ W, w.alloc (.cells #[.int .i64 0, .int .i64 0, .int .i64 0, .int .i64 0] 50) = W := ⟨_, rfl⟩
  have M1 := hM.alloc (.cells #[.int .i64 0, .int .i64 0, .int .i64 0, .int .i64 0] 50)
  have h1 := cell_alloc hB (.cells #[.int .i64 0, .int .i64 0, .int .i64 0, .int .i64 0] 50)
  have R0 := hid (Bx4.new w 50 (.int .i64 0) (.int .i64 0) (.int .i64 0) (.int .i64 0))
  have B0 := hid ((Below.refl w.heap.size w).alloc (Nat.le_refl _) (.cells #[.int .i64 0, .int .i64 0, .int .i64 0, .int .i64 0] 50))
  have lk := M1.look l r hl hr
  obtain ⟨⟨x0, x1, x2, x3⟩, hx⟩ : ∃ x, Pr.fm ms l r = x := ⟨_, rfl⟩
  obtain ⟨t, ht⟩ : ∃ t, Pr.fb ms l r = t := ⟨_, rfl⟩
  rw [hx, ht] at lk
  rw [hx, ht]
  unfold vm at lk ⊢
  simp only at lk ⊢
  rw [hW] at h1 lk R0 B0
  have hs := hid (show W.heap.size = w.heap.size + 1 by rw [← hW]; simp)
  clear hx ht hB hM M1 hl hr
  have R1 := hid (R0.out.alloc (.cells #[.int .i64 x0, .int .i64 x1, .int .i64 x2, .int .i64 x3] 50))
  have X1 := hid (Bx4.new W 50 (.int .i64 x0) (.int .i64 x1) (.int .i64 x2) (.int .i64 x3))
  have B1 := hid (B0.out.alloc B0.out.size (.cells #[.int .i64 x0, .int .i64 x1, .int .i64 x2, .int .i64 x3] 50))
  obtain ⟨y1, y2, y3, y4⟩ := ret_quad R1.out (.int .i64 x0) (.int .i64 x1) (.int .i64 x2) (.int .i64 x3)
  have BB := hid (below_quad B1.out (R := w.heap.size) (Nat.le_refl _) (.int .i64 x0) (.int .i64 x1) (.int .i64 x2) (.int .i64 x3))
  have p0 := R1.out.cell0
  have q0 := R1.out.fr 0
  have u1 := y1.cell1
  have v1 := y1.fr 1
  have u2 := y2.cell2
  have v2 := y2.fr 2
  have u3 := y3.cell3
  have v3 := y3.fr 3
  have r0 := y4.cell0
  have r1 := y4.cell1
  have r2 := y4.cell2
  have r3 := y4.cell3
  have z0 := X1.out.cell0
  have z1 := X1.out.cell1
  have z2 := X1.out.cell2
  have z3 := X1.out.cell3
  unfold quad at r0 r1 r2 r3
  clear y1 y2 y3 y4 R0 B0
  go_enter Try.func25, Try.ntmps25
  go_wp2_with fail
  try rw [hW]
  clear hW
  go_wp2_with fail
  refine bodyPost_ret (v := .tuple #[.agg #[.int .i64 x0, .int .i64 x1, .int .i64 x2, .int .i64 x3], .bool t]) (by simp [results, Try.results25, go_sem, r0, r1, r2, r3]) rfl ?_
  exact ⟨rfl, BB.out⟩

theorem find_is {w : World} {B : Nat} {ms : List Mg4} (T : TbIn w B ms) (l r : Int) (hl : (Lit.int .i64 l).wf = true) (hr : (Lit.int .i64 r).wf = true) {x0 x1 x2 x3 : Int} {t : Bool} (hx : Pr.fm ms l r = (x0, x1, x2, x3)) (ht : Pr.fb ms l r = t) :
    Calls Try.prog 25 #[.pointer (some ⟨B, 0, none⟩), .int .i64 l, .int .i64 r] w fun e w' => e = .returned (.tuple #[.agg #[.int .i64 x0, .int .i64 x1, .int .i64 x2, .int .i64 x3], .bool t]) ∧ Below w.heap.size w w' := by
  have h := find_calls T l r hl hr
  rw [hx, ht] at h
  exact h

/-- The place of a merge, or -1. -/
def Pr.fz (ms : List Mg4) (l r : Int) : Int := match Pr.fnd ms l r with | some k => (k : Int) | none => -1
set_option maxRecDepth 100000 in
set_option maxHeartbeats 3200000 in
theorem rfind_calls {w : World} {a am az : Option Addr} {n c nm cm ns cs : Nat} {ms : List Mg4} (M : Qw w am nm cm ms) (l r : Int) (hm : nm ≤ 1000000) :
    Calls Try.prog 76 #[.agg #[.slice a n c, .slice am nm cm, .slice az ns cs], .int .i64 l, .int .i64 r] w fun e w' => e = .returned (.int .i64 (Pr.fz ms l r)) ∧ Below w.heap.size w w' := by
  have hlm := M.len
  have B0 := hid ((Below.refl w.heap.size w).alloc (Nat.le_refl _) (.cells #[.slice a n c, .slice am nm cm, .slice az ns cs] 26))
  have X0 := hid (Bx3.new w 26 (.slice a n c) (.slice am nm cm) (.slice az ns cs))
  have M0 := hid (M.below B0.out)
  clear M
  obtain ⟨W, hW⟩ : ∃ W, w.alloc (.cells #[.slice a n c, .slice am nm cm, .slice az ns cs] 26) = W := ⟨_, rfl⟩
  rw [hW] at X0 M0 B0
  have x0 := X0.out.cell0
  have x1 := X0.out.cell1
  have x2 := X0.out.cell2
  go_enter Try.func76, Try.ntmps76
  go_wp2_with fail
  try rw [hW]
  clear hW X0
  go_loopg [11] nm (fun q iv wr => ∃ j : Nat, q = nm - j ∧ j ≤ nm ∧ iv = .int .i64 j ∧ Hid (Pr.fndTo ms l r j = none) ∧ W = wr)
  case atStart => exact ⟨0, rfl, by omega, rfl, hid rfl, rfl⟩
  case round =>
    obtain ⟨j, rfl, hj, rfl, HF, rfl⟩ := hrel
    by_cases hlt : j < nm
    · have l0 : (0 : Int) ≤ j := by omega
      have l1 : (j : Int) < nm := by omega
      have l2 : IntKind.i64.wrap ((j : Int) + 1) = j + 1 := i64_in (by omega) (by omega)
      obtain ⟨b, off, rfl, hbl, hc⟩ := M0.out.at' (by omega)
      obtain ⟨p0, p1, p2, p3⟩ := hc j hlt
      obtain ⟨⟨y0, y1, y2, y3⟩, hx⟩ : ∃ x, mat ms j = x := ⟨_, rfl⟩
      rw [hx] at p0 p1 p2 p3
      have HX := hid hx
      clear hc hx p2 p3
      by_cases h0 : y0 = l
      · by_cases h1 : y1 = r
        · have HZ := hid (show Pr.fz ms l r = (j : Int) by
            unfold Pr.fz
            rw [Pr.fnd_hit (by omega) HF.out (by rw [HX.out]; exact ⟨h0, h1⟩)])
          subst h0 h1
          go_wp2_with fail
          go_ret
          exact ⟨by rw [HZ.out]; rfl, B0.out⟩
        · have HZ := hid (Pr.fndTo_miss HF.out (by rw [HX.out]; exact fun h => h1 h.2))
          have e1 : (y1 == r) = false := by simpa using h1
          subst h0
          go_wp2_with fail
          go_roundg (nm - (j + 1))
          case measure => omega
          case rel => exact ⟨j + 1, rfl, by omega, by go_num, HZ, rfl⟩
      · have HZ := hid (Pr.fndTo_miss HF.out (by rw [HX.out]; exact fun h => h0 h.1))
        have e1 : (y0 == l) = false := by simpa using h0
        go_wp2_with fail
        go_roundg (nm - (j + 1))
        case measure => omega
        case rel => exact ⟨j + 1, rfl, by omega, by go_num, HZ, rfl⟩
    · have l1 : ¬ (j : Int) < nm := by omega
      have HZ := hid (show Pr.fz ms l r = -1 by
        have h : Pr.fnd ms l r = none := by unfold Pr.fnd; rw [show ms.length = j by omega]; exact HF.out
        unfold Pr.fz
        rw [h])
      go_wp2_with fail
      go_ret
      exact ⟨by rw [HZ.out]; rfl, B0.out⟩
end Go.Proofs.Ytcjakjmhghoilaa

/-
  Walk of a table's Best.
-/
namespace Go.Proofs.Ytcjakjmhghoilaa
open Go.RowKit Go.Maps
open Pr (it)
set_option linter.unusedVariables false

namespace Pr
def plc (q : Option (Nat × Nat)) : Int := match q with | none => 0 | some x => x.1
def mrg (ms : List Mg4) (q : Option (Nat × Nat)) : Mg4 := match q with | none => (0, 0, 0, 0) | some x => mat ms x.2
def has (q : Option (Nat × Nat)) : Bool := match q with | none => false | some _ => true
/-- One place more: what was best stays, or the new one is. -/
theorem bst_ways (ms : List Mg4) (xs : Row) (j : Nat) :
    (fb ms (it xs j) (it xs (j + 1)) = false ∧ bst ms xs (j + 1) = bst ms xs j) ∨
    (fb ms (it xs j) (it xs (j + 1)) = true ∧ has (bst ms xs j) = false ∧ plc (bst ms xs (j + 1)) = j ∧ mrg ms (bst ms xs (j + 1)) = fm ms (it xs j) (it xs (j + 1)) ∧ has (bst ms xs (j + 1)) = true) ∨
    (fb ms (it xs j) (it xs (j + 1)) = true ∧ has (bst ms xs j) = true ∧ (fm ms (it xs j) (it xs (j + 1))).2.2.2 < (mrg ms (bst ms xs j)).2.2.2 ∧ plc (bst ms xs (j + 1)) = j ∧ mrg ms (bst ms xs (j + 1)) = fm ms (it xs j) (it xs (j + 1)) ∧ has (bst ms xs (j + 1)) = true) ∨
    (fb ms (it xs j) (it xs (j + 1)) = true ∧ has (bst ms xs j) = true ∧ ¬ (fm ms (it xs j) (it xs (j + 1))).2.2.2 < (mrg ms (bst ms xs j)).2.2.2 ∧ bst ms xs (j + 1) = bst ms xs j) := by
  unfold fb fm
  cases hf : fnd ms (it xs j) (it xs (j + 1)) with
  | none => exact .inl ⟨rfl, bst_none' hf⟩
  | some k =>
    right
    cases hb : bst ms xs j with
    | none =>
      rw [bst_new hf hb]
      exact .inl ⟨rfl, rfl, rfl, rfl, rfl⟩
    | some q =>
      obtain ⟨p, b⟩ := q
      by_cases hl : ord ms k < ord ms b
      · rw [bst_less hf hb hl]
        exact .inr (.inl ⟨rfl, rfl, hl, rfl, rfl, rfl⟩)
      · rw [bst_keep hf hb hl]
        exact .inr (.inr ⟨rfl, rfl, hl, rfl⟩)
end Pr

theorem quad_cell {W : World} {R b o : Nat} (hne : b ≠ R) (x y z u : Value) : ((((W.setCell ⟨R, 0, none⟩ x).setCell ⟨R, 1, none⟩ y).setCell ⟨R, 2, none⟩ z).setCell ⟨R, 3, none⟩ u).cell? ⟨b, o, none⟩ = W.cell? ⟨b, o, none⟩ := by
  have h : ((((W.setCell ⟨R, 0, none⟩ x).setCell ⟨R, 1, none⟩ y).setCell ⟨R, 2, none⟩ z).setCell ⟨R, 3, none⟩ u).heap[b]? = W.heap[b]? := by
    rw [Below.heap_setCell _ _ _ _ (by simpa using hne), Below.heap_setCell _ _ _ _ (by simpa using hne), Below.heap_setCell _ _ _ _ (by simpa using hne), Below.heap_setCell _ _ _ _ (by simpa using hne)]
  exact World.cell?_of_block h
theorem quad_drew {W : World} {R b o : Nat} (hne : b ≠ R) (x y z u : Value) : ((((W.setCell ⟨R, 0, none⟩ x).setCell ⟨R, 1, none⟩ y).setCell ⟨R, 2, none⟩ z).setCell ⟨R, 3, none⟩ u).drew.cell? ⟨b, o, none⟩ = W.cell? ⟨b, o, none⟩ := quad_cell hne x y z u
/-- A block that was laid ahead of a call. -/
theorem fresh4 {wr w2 : World} {t : TypeId} {x y z u : Value} (b2 : Below (wr.alloc (.cells #[x, y, z, u] t)).drew.heap.size (wr.alloc (.cells #[x, y, z, u] t)).drew w2) : Below wr.heap.size wr w2 ∧ Bx4 w2 wr.heap.size t x y z u :=
  have B1 := ((Below.refl wr.heap.size wr).alloc (Nat.le_refl _) (.cells #[x, y, z, u] t)).drew
  have X := (Bx4.new wr t x y z u).drew
  ⟨B1.trans (b2.mono B1.size), X.below b2 X.lt⟩

theorem Bx4.quad {W : World} {B R : Nat} {t : TypeId} {a b c d : Value} (h : Bx4 W B t a b c d) (hne : B ≠ R) (x y z u : Value) : Bx4 (quad W R x y z u) B t a b c d := by
  unfold Bx4 Go.Proofs.Ytcjakjmhghoilaa.quad
  rw [Below.heap_setCell _ _ _ _ (by simpa using hne), Below.heap_setCell _ _ _ _ (by simpa using hne), Below.heap_setCell _ _ _ _ (by simpa using hne), Below.heap_setCell _ _ _ _ (by simpa using hne)]
  exact h
/-- What lies behind a look-up: the merge that was found, the result, the best one. -/
structure Lk (w W : World) (nb : Nat) (t : TypeId) (x0 x1 x2 x3 m0 m1 m2 m3 : Int) : Prop where
  X : Bx4 W nb t (.int .i64 x0) (.int .i64 x1) (.int .i64 x2) (.int .i64 x3)
  R : Bx4 W w.heap.size t (.int .i64 0) (.int .i64 0) (.int .i64 0) (.int .i64 0)
  M : Bx4 W (w.heap.size + 1) t (.int .i64 m0) (.int .i64 m1) (.int .i64 m2) (.int .i64 m3)
  B : Below w.heap.size w W
  ne : w.heap.size + 1 < nb
theorem lk_new {w wr w2 : World} {t : TypeId} {m0 m1 m2 m3 : Int} (hR : Bx4 wr w.heap.size t (.int .i64 0) (.int .i64 0) (.int .i64 0) (.int .i64 0)) (hM : Bx4 wr (w.heap.size + 1) t (.int .i64 m0) (.int .i64 m1) (.int .i64 m2) (.int .i64 m3)) (hB : Below w.heap.size w wr) (b : Below wr.heap.size wr w2) (x0 x1 x2 x3 : Int) :
    Lk w (w2.alloc (.cells #[.int .i64 x0, .int .i64 x1, .int .i64 x2, .int .i64 x3] t)) w2.heap.size t x0 x1 x2 x3 m0 m1 m2 m3 :=
  ⟨Bx4.new _ _ _ _ _ _, (hR.below b hR.lt).alloc _, (hM.below b hM.lt).alloc _, (hB.trans (b.mono hB.size)).alloc (Nat.le_trans hB.size b.size) _, Nat.lt_of_lt_of_le hM.lt b.size⟩
theorem lk_old {w wr w2 : World} {t : TypeId} {m0 m1 m2 m3 : Int} (hR : Bx4 wr w.heap.size t (.int .i64 0) (.int .i64 0) (.int .i64 0) (.int .i64 0)) (hM : Bx4 wr (w.heap.size + 1) t (.int .i64 m0) (.int .i64 m1) (.int .i64 m2) (.int .i64 m3)) (hB : Below w.heap.size w wr) (b : Below wr.heap.size wr w2) (x0 x1 x2 x3 : Int)
    (Y : Bx4 (quad w2 wr.heap.size (.int .i64 x0) (.int .i64 x1) (.int .i64 x2) (.int .i64 x3)) wr.heap.size t (.int .i64 x0) (.int .i64 x1) (.int .i64 x2) (.int .i64 x3)) :
    Lk w (quad w2 wr.heap.size (.int .i64 x0) (.int .i64 x1) (.int .i64 x2) (.int .i64 x3)) wr.heap.size t x0 x1 x2 x3 m0 m1 m2 m3 :=
  ⟨Y, (hR.below b hR.lt).quad (by have := hM.lt; omega) _ _ _ _, (hM.below b hM.lt).quad (by have := hM.lt; omega) _ _ _ _, below_quad (hB.trans (b.mono hB.size)) hB.size _ _ _ _, hM.lt⟩

set_option maxRecDepth 100000 in
set_option maxHeartbeats 6400000 in
theorem best_calls {w : World} {B : Nat} {ms : List Mg4} {a : Option Addr} {n c : Nat} {xs : Pr.Row} (T : TbIn w B ms) (R : Ir w a n c xs) (F : Fits xs) (hn : n ≤ 1000000) :
    Calls Try.prog 38 #[.pointer (some ⟨B, 0, none⟩), .slice a n c] w fun e w' => e = .returned (.tuple #[.int .i64 (Pr.plc (Pr.best ms xs)), vm (Pr.mrg ms (Pr.best ms xs)), .bool (Pr.has (Pr.best ms xs))]) ∧ Below w.heap.size w w' := by
  have hl := R.len
  have TW := hid T
  have RW := hid R
  have FW := hid F
  clear T R F
  have R0 := hid ((Bx4.new w 50 (.int .i64 0) (.int .i64 0) (.int .i64 0) (.int .i64 0)).alloc (.cells #[.int .i64 0, .int .i64 0, .int .i64 0, .int .i64 0] 50))
  have X0 := hid (Bx4.new (w.alloc (.cells #[.int .i64 0, .int .i64 0, .int .i64 0, .int .i64 0] 50)) 50 (.int .i64 0) (.int .i64 0) (.int .i64 0) (.int .i64 0))
  have hs : (w.alloc (.cells #[.int .i64 0, .int .i64 0, .int .i64 0, .int .i64 0] 50)).heap.size = w.heap.size + 1 := by simp
  rw [hs] at X0
  clear hs
  have B0 := hid (((Below.refl w.heap.size w).alloc (Nat.le_refl _) (.cells #[.int .i64 0, .int .i64 0, .int .i64 0, .int .i64 0] 50)).alloc (by simp) (.cells #[.int .i64 0, .int .i64 0, .int .i64 0, .int .i64 0] 50))
  go_enter Try.func38, Try.ntmps38
  go_wp2_with fail
  go_loopg [7, 9, 10] n (fun r pv fv iv wr => ∃ (j : Nat) (pz : Int) (mm : Mg4) (fd : Bool), r = n - j ∧ iv = .int .i64 ((j : Int) + 1) ∧ pv = .int .i64 pz ∧ fv = .bool fd ∧ ((n = 0 ∧ j = 0) ∨ j + 1 ≤ n) ∧ Hid (pz = Pr.plc (Pr.bst ms xs j) ∧ mm = Pr.mrg ms (Pr.bst ms xs j) ∧ fd = Pr.has (Pr.bst ms xs j)) ∧ Hid (Bx4 wr w.heap.size 50 (.int .i64 0) (.int .i64 0) (.int .i64 0) (.int .i64 0)) ∧ Hid (Bx4 wr (w.heap.size + 1) 50 (.int .i64 mm.1) (.int .i64 mm.2.1) (.int .i64 mm.2.2.1) (.int .i64 mm.2.2.2)) ∧ Hid (Below w.heap.size w wr))
  case atStart => exact ⟨0, 0, (0, 0, 0, 0), false, rfl, rfl, rfl, rfl, by omega, hid ⟨rfl, rfl, rfl⟩, R0, X0, B0⟩
  case round =>
    obtain ⟨j, pz, ⟨m0, m1, m2, m3⟩, fd, rfl, rfl, rfl, rfl, hj, HV, HR, HX, HB⟩ := hrel
    simp only at HX
    by_cases hlt : j + 1 < n
    · have k1 : (j : Int) + 1 < n := by omega
      have k0 : (0 : Int) ≤ j := by omega
      have k2 : (0 : Int) ≤ (j : Int) + 1 := by omega
      have k3 : (j : Int) < n := by omega
      have e1 : IntKind.i64.wrap ((j : Int) + 1 - 1) = j := by rw [i64_in (by omega) (by omega)]; omega
      have e3 : IntKind.i64.wrap (j : Int) = j := i64_in (by omega) (by omega)
      have e2 : IntKind.i64.wrap ((j : Int) + 1 + 1) = j + 1 + 1 := i64_in (by omega) (by omega)
      have hB1 := HB.out.size
      have T1 := hid (TW.out.below HB.out)
      obtain ⟨b, off, rfl, hbl, hc⟩ := (RW.out.below HB.out).at' (by omega)
      have p0 := hc j (by omega)
      have p1 := hc (j + 1) hlt
      have W0 := FW.out _ (Pr.it_mem (xs := xs) (i := j) (by omega))
      have W1 := FW.out _ (Pr.it_mem (xs := xs) (i := j + 1) (by omega))
      have WY := hid (Pr.bst_ways ms xs j)
      obtain ⟨l, hx⟩ : ∃ x, it xs j = x := ⟨_, rfl⟩
      obtain ⟨r, hy⟩ : ∃ x, it xs (j + 1) = x := ⟨_, rfl⟩
      rw [hx] at p0 W0 WY
      rw [hy] at p1 W1 WY
      obtain ⟨⟨x0, x1, x2, x3⟩, hfm⟩ : ∃ x, Pr.fm ms l r = x := ⟨_, rfl⟩
      obtain ⟨t, hfb⟩ : ∃ x, Pr.fb ms l r = x := ⟨_, rfl⟩
      have FC := hid (fun W (hW : Below wr.heap.size wr W) => find_is (T1.out.below hW) l r W0 W1 hfm hfb)
      rw [hfm, hfb] at WY
      clear hc hx hy W0 W1 hfm hfb
      go_wp2_with fail
      have HNe := hid (show b ≠ wr.heap.size by omega)
      go_region_held3 (fun w' => w'.cell? ⟨b, off + j, none⟩ = some (.int .i64 l) ∧ w'.cell? ⟨b, off + (j + 1), none⟩ = some (.int .i64 r)) (first | with_reducible exact N2.out | with_reducible exact ⟨cell_alloc N2.out.1 _, cell_alloc N2.out.2 _⟩ | with_reducible exact ⟨(quad_cell HNe.out _ _ _ _).trans N2.out.1, (quad_cell HNe.out _ _ _ _).trans N2.out.2⟩ | go_keep) (first | (go_at_call 25; refine (FC.out _ (Below.refl _ _).drew).mono ?_; rintro e w2 ⟨rfl, b2⟩; have B2 := hid (show Below wr.heap.size wr w2 from (Below.refl _ wr).drew.trans b2); have N2 := hid (show w2.cell? ⟨b, off + j, none⟩ = some (.int .i64 l) ∧ w2.cell? ⟨b, off + (j + 1), none⟩ = some (.int .i64 r) from ⟨(B2.out.cell (p := ⟨b, off + j, none⟩) hbl).trans p0, (B2.out.cell (p := ⟨b, off + (j + 1), none⟩) hbl).trans p1⟩); clear b2) | (go_at_call 25; refine (FC.out _ ((Below.refl _ _).alloc (Nat.le_refl _) _).drew).mono ?_; rintro e w2 ⟨rfl, b2⟩; obtain ⟨b3, y0⟩ := fresh4 b2; have B2 := hid b3; have N2 := hid (show w2.cell? ⟨b, off + j, none⟩ = some (.int .i64 l) ∧ w2.cell? ⟨b, off + (j + 1), none⟩ = some (.int .i64 r) from ⟨(B2.out.cell (p := ⟨b, off + j, none⟩) hbl).trans p0, (B2.out.cell (p := ⟨b, off + (j + 1), none⟩) hbl).trans p1⟩); have Y2 := hid y0; obtain ⟨y1, y2, y3, y4⟩ := ret_quad Y2.out (.int .i64 x0) (.int .i64 x1) (.int .i64 x2) (.int .i64 x3); have a0 := Y2.out.cell0; have b0 := Y2.out.fr 0; have a1 := y1.cell1; have b1 := y1.fr 1; have a2 := y2.cell2; have b2' := y2.fr 2; have a3 := y3.cell3; have b3' := y3.fr 3; have Y4 := hid y4; clear y0 y1 y2 y3 y4 b3 b2))
      all_goals
        first
          | (have L4 := hid (lk_new HR.out HX.out HB.out B2.out x0 x1 x2 x3)
             obtain ⟨w4, hw4⟩ : ∃ W, w2.alloc (.cells #[.int .i64 x0, .int .i64 x1, .int .i64 x2, .int .i64 x3] 50) = W := ⟨_, rfl⟩
             obtain ⟨nb, hnb⟩ : ∃ nb, w2.heap.size = nb := ⟨_, rfl⟩
             rw [hw4, hnb] at L4
             rw [hw4, hnb])
          | (have L4 := hid (lk_old HR.out HX.out HB.out B2.out x0 x1 x2 x3 Y4.out)
             unfold quad at L4
             obtain ⟨nb, hnb⟩ : ∃ nb, wr.heap.size = nb := ⟨_, rfl⟩
             rw [hnb] at L4
             rw [hnb]
             obtain ⟨w4, hw4⟩ : ∃ W, (((w2.setCell ⟨nb, 0, none⟩ (.int .i64 x0)).setCell ⟨nb, 1, none⟩ (.int .i64 x1)).setCell ⟨nb, 2, none⟩ (.int .i64 x2)).setCell ⟨nb, 3, none⟩ (.int .i64 x3) = W := ⟨_, rfl⟩
             rw [hw4] at L4
             rw [hw4]
             clear a0 b0 a1 b1 a2 b2' a3 b3' Y4)
        clear hw4 hnb HR HX HB B2 N2 HNe FC p0 p1 hB1 T1
        have hne := L4.out.ne
        have c3 := L4.out.X.cell3
        have d3 := L4.out.M.cell3
        rcases WY.out with ⟨hb, hs⟩ | ⟨hb, hh, h1, h2, h3⟩ | ⟨hb, hh, hlt', h1, h2, h3⟩ | ⟨hb, hh, hlt', hs⟩
        · subst hb
          have HVn := hid (show pz = Pr.plc (Pr.bst ms xs (j + 1)) ∧ (m0, m1, m2, m3) = Pr.mrg ms (Pr.bst ms xs (j + 1)) ∧ fd = Pr.has (Pr.bst ms xs (j + 1)) from by rw [hs]; exact HV.out)
          clear hs
          go_wp2_with fail
          go_roundg (n - (j + 1))
          case measure => omega
          case rel => exact ⟨j + 1, pz, (m0, m1, m2, m3), fd, rfl, by go_num, rfl, rfl, by omega, HVn, hid L4.out.R, hid L4.out.M, hid L4.out.B⟩
        · subst hb
          have hfd : fd = false := HV.out.2.2.trans hh
          subst hfd
          have HVn := hid (show (j : Int) = Pr.plc (Pr.bst ms xs (j + 1)) ∧ (x0, x1, x2, x3) = Pr.mrg ms (Pr.bst ms xs (j + 1)) ∧ true = Pr.has (Pr.bst ms xs (j + 1)) from ⟨h1.symm, h2.symm, h3.symm⟩)
          clear hh h1 h2 h3
          have f0 := L4.out.M.cell0
          have g0 := L4.out.M.fr 0
          have e0 := L4.out.X.cell0
          have e1' := L4.out.X.cell1
          have e2' := L4.out.X.cell2
          obtain ⟨y1, y2, y3, y4⟩ := ret_quad L4.out.M (.int .i64 x0) (.int .i64 x1) (.int .i64 x2) (.int .i64 x3)
          have f1 := y1.cell1
          have g1 := y1.fr 1
          have f2 := y2.cell2
          have g2 := y2.fr 2
          have f3 := y3.cell3
          have g3 := y3.fr 3
          have M5 := hid y4
          have R5 := hid (L4.out.R.quad (R := w.heap.size + 1) (by omega) (.int .i64 x0) (.int .i64 x1) (.int .i64 x2) (.int .i64 x3))
          have B5 := hid (below_quad L4.out.B (R := w.heap.size + 1) (by omega) (.int .i64 x0) (.int .i64 x1) (.int .i64 x2) (.int .i64 x3))
          have HNe := hid (show nb ≠ w.heap.size + 1 by omega)
          clear y1 y2 y3 y4
          go_wp2_with fail
          go_region_held3 (fun w' => w'.cell? ⟨nb, 0, none⟩ = some (.int .i64 x0) ∧ w'.cell? ⟨nb, 1, none⟩ = some (.int .i64 x1) ∧ w'.cell? ⟨nb, 2, none⟩ = some (.int .i64 x2) ∧ w'.cell? ⟨nb, 3, none⟩ = some (.int .i64 x3)) (first | with_reducible exact ⟨e0, e1', e2', c3⟩ | with_reducible exact ⟨(quad_cell HNe.out _ _ _ _).trans e0, (quad_cell HNe.out _ _ _ _).trans e1', (quad_cell HNe.out _ _ _ _).trans e2', (quad_cell HNe.out _ _ _ _).trans c3⟩ | with_reducible exact ⟨(quad_drew HNe.out _ _ _ _).trans e0, (quad_drew HNe.out _ _ _ _).trans e1', (quad_drew HNe.out _ _ _ _).trans e2', (quad_drew HNe.out _ _ _ _).trans c3⟩ | go_keep) (fail)
          go_wp2_with fail
          go_roundg (n - (j + 1))
          case measure => omega
          case rel => exact ⟨j + 1, j, (x0, x1, x2, x3), true, rfl, by go_num, rfl, rfl, by omega, HVn, hid R5.out.drew, hid M5.out.drew, hid B5.out.drew⟩
        · subst hb
          have hfd : fd = true := HV.out.2.2.trans hh
          subst hfd
          have HVn := hid (show (j : Int) = Pr.plc (Pr.bst ms xs (j + 1)) ∧ (x0, x1, x2, x3) = Pr.mrg ms (Pr.bst ms xs (j + 1)) ∧ true = Pr.has (Pr.bst ms xs (j + 1)) from ⟨h1.symm, h2.symm, h3.symm⟩)
          rw [← HV.out.2.1] at hlt'
          have hlt2 : x3 < m3 := hlt'
          clear hh h1 h2 h3 hlt'
          have f0 := L4.out.M.cell0
          have g0 := L4.out.M.fr 0
          have e0 := L4.out.X.cell0
          have e1' := L4.out.X.cell1
          have e2' := L4.out.X.cell2
          obtain ⟨y1, y2, y3, y4⟩ := ret_quad L4.out.M (.int .i64 x0) (.int .i64 x1) (.int .i64 x2) (.int .i64 x3)
          have f1 := y1.cell1
          have g1 := y1.fr 1
          have f2 := y2.cell2
          have g2 := y2.fr 2
          have f3 := y3.cell3
          have g3 := y3.fr 3
          have M5 := hid y4
          have R5 := hid (L4.out.R.quad (R := w.heap.size + 1) (by omega) (.int .i64 x0) (.int .i64 x1) (.int .i64 x2) (.int .i64 x3))
          have B5 := hid (below_quad L4.out.B (R := w.heap.size + 1) (by omega) (.int .i64 x0) (.int .i64 x1) (.int .i64 x2) (.int .i64 x3))
          have HNe := hid (show nb ≠ w.heap.size + 1 by omega)
          clear y1 y2 y3 y4
          go_wp2_with fail
          go_region_held3 (fun w' => w'.cell? ⟨nb, 0, none⟩ = some (.int .i64 x0) ∧ w'.cell? ⟨nb, 1, none⟩ = some (.int .i64 x1) ∧ w'.cell? ⟨nb, 2, none⟩ = some (.int .i64 x2) ∧ w'.cell? ⟨nb, 3, none⟩ = some (.int .i64 x3)) (first | with_reducible exact ⟨e0, e1', e2', c3⟩ | with_reducible exact ⟨(quad_cell HNe.out _ _ _ _).trans e0, (quad_cell HNe.out _ _ _ _).trans e1', (quad_cell HNe.out _ _ _ _).trans e2', (quad_cell HNe.out _ _ _ _).trans c3⟩ | with_reducible exact ⟨(quad_drew HNe.out _ _ _ _).trans e0, (quad_drew HNe.out _ _ _ _).trans e1', (quad_drew HNe.out _ _ _ _).trans e2', (quad_drew HNe.out _ _ _ _).trans c3⟩ | go_keep) (fail)
          go_wp2_with fail
          go_roundg (n - (j + 1))
          case measure => omega
          case rel => exact ⟨j + 1, j, (x0, x1, x2, x3), true, rfl, by go_num, rfl, rfl, by omega, HVn, hid R5.out.drew, hid M5.out.drew, hid B5.out.drew⟩
        · subst hb
          have hfd : fd = true := HV.out.2.2.trans hh
          subst hfd
          have HVn := hid (show pz = Pr.plc (Pr.bst ms xs (j + 1)) ∧ (m0, m1, m2, m3) = Pr.mrg ms (Pr.bst ms xs (j + 1)) ∧ true = Pr.has (Pr.bst ms xs (j + 1)) from by rw [hs]; exact HV.out)
          rw [← HV.out.2.1] at hlt'
          have hlt2 : decide (x3 < m3) = false := by first | exact decide_eq_false hlt' | exact decide_eq_false (Int.not_lt.2 hlt')
          clear hh hs hlt'
          go_wp2_with fail
          go_roundg (n - (j + 1))
          case measure => omega
          case rel => exact ⟨j + 1, pz, (m0, m1, m2, m3), true, rfl, by go_num, rfl, rfl, by omega, HVn, hid L4.out.R, hid L4.out.M, hid L4.out.B⟩
    · have k1 : ¬ (j : Int) + 1 < n := by omega
      have HE := hid (show Pr.bst ms xs j = Pr.best ms xs by unfold Pr.best; congr 1; omega)
      have HV2 := hid HV.out
      rw [HE.out] at HV2
      have z0 := HX.out.cell0
      have z1 := HX.out.cell1
      have z2 := HX.out.cell2
      have z3 := HX.out.cell3
      have X9 := hid HX.out
      have B9 := hid HB.out
      obtain ⟨y1, y2, y3, y4⟩ := ret_quad HR.out (.int .i64 m0) (.int .i64 m1) (.int .i64 m2) (.int .i64 m3)
      have BB := hid (below_quad HB.out (R := w.heap.size) (Nat.le_refl _) (.int .i64 m0) (.int .i64 m1) (.int .i64 m2) (.int .i64 m3)).drew
      have p0 := HR.out.cell0
      have q0 := HR.out.fr 0
      have u1 := y1.cell1
      have v1 := y1.fr 1
      have u2 := y2.cell2
      have v2 := y2.fr 2
      have u3 := y3.cell3
      have v3 := y3.fr 3
      have r0 := y4.drew.cell0
      have r1 := y4.drew.cell1
      have r2 := y4.drew.cell2
      have r3 := y4.drew.cell3
      unfold quad at r0 r1 r2 r3
      clear y1 y2 y3 y4 HX HB HR HV
      go_wp2_with fail
      go_region_held3 (fun w' => w'.cell? ⟨w.heap.size + 1, 0, none⟩ = some (.int .i64 m0) ∧ w'.cell? ⟨w.heap.size + 1, 1, none⟩ = some (.int .i64 m1) ∧ w'.cell? ⟨w.heap.size + 1, 2, none⟩ = some (.int .i64 m2) ∧ w'.cell? ⟨w.heap.size + 1, 3, none⟩ = some (.int .i64 m3)) (first | with_reducible exact ⟨z0, z1, z2, z3⟩ | with_reducible exact ⟨(quad_cell (Nat.succ_ne_self _) _ _ _ _).trans z0, (quad_cell (Nat.succ_ne_self _) _ _ _ _).trans z1, (quad_cell (Nat.succ_ne_self _) _ _ _ _).trans z2, (quad_cell (Nat.succ_ne_self _) _ _ _ _).trans z3⟩ | with_reducible exact ⟨(quad_drew (Nat.succ_ne_self _) _ _ _ _).trans z0, (quad_drew (Nat.succ_ne_self _) _ _ _ _).trans z1, (quad_drew (Nat.succ_ne_self _) _ _ _ _).trans z2, (quad_drew (Nat.succ_ne_self _) _ _ _ _).trans z3⟩ | go_keep) (fail)
      go_wp2_with fail
      refine bodyPost_ret (v := .tuple #[.int .i64 pz, .agg #[.int .i64 m0, .int .i64 m1, .int .i64 m2, .int .i64 m3], .bool fd]) (by simp [results, Try.results38, go_sem, r0, r1, r2, r3]) rfl ?_
      refine ⟨?_, BB.out⟩
      rw [← HV2.out.1, ← HV2.out.2.1, ← HV2.out.2.2]
      rfl
end Go.Proofs.Ytcjakjmhghoilaa

/-
  Walks of pair.join and slices.Clone.
-/
namespace Go.Proofs.Ytcjakjmhghoilaa
open Go.RowKit Go.Maps
open Pr (it)
set_option linter.unusedVariables false

theorem Try.infoInt : (Try.prog.info? 3).map (fun i => (i.zero, i.size, i.bytes)) = some (some (.int .i64 0), 1, 8) := by kernel_rfl

theorem fz_row {w : World} {G : Nat} {cur : List Value} {t : TypeId} (h : w.heap[G]? = some (.cells cur.toArray t (0, 0))) (i : Nat) : w.frozen? ⟨G, i, none⟩ = false := by simp [World.frozen?, h]
set_option maxRecDepth 100000 in
set_option maxHeartbeats 3200000 in
theorem join_calls {w : World} {a : Option Addr} {n m c G N cap p : Nat} {xs : Pr.Row} {cur : List Value} (R : Ir w a n c xs) (hm : n = m + 1) (hp : p + 1 < n) (hG : w.heap[G]? = some (.cells cur.toArray 3 (0, 0))) (hcap : cur.length = cap) (hcm : cap ≤ maxLen)
    (hN : m ≤ N) (hNc : N ≤ cap) (hov : (∀ b off, a = some ⟨b, off, none⟩ → b < G) ∨ a = some ⟨G, 0, none⟩) (o : Int) :
    Calls Try.prog 39 #[.slice (some ⟨G, 0, none⟩) N cap, .slice a n c, .int .i64 (p : Int), .int .i64 o] w fun e w' => e = .returned (.slice (some ⟨G, 0, none⟩) m cap) ∧ (∃ cur' : Array Value, w'.heap[G]? = some (.cells cur' 3 (0, 0)) ∧ cur'.size = cap ∧ cur'.toList.take m = iv (Pr.jn xs p o)) ∧ Below G w w' := by
  obtain ⟨i0, hi0, hz0, hz1, hz2⟩ := info_parts Try.infoInt
  have hszE : (Try.prog.info? 3).map (·.size) = some 1 := by rw [hi0]; simp [hz1]
  have hl := R.len
  have hle := R.le
  have hmx := R.mx
  obtain ⟨b, off, rfl, hbl, hc⟩ := R.at' (by omega)
  have HC := hid hc
  have HG := hid hG
  have HL := hid (join_list (cur := cur) (xs := xs) (n := n) (m := m) (p := p) o hl hm hp (by omega))
  have HM := hid hm
  have l1 : (iv (xs.take p)).length = p := by rw [iv_length, List.length_take]; omega
  have l2 : (iv (xs.drop (p + 2))).length = n - (p + 2) := by rw [iv_length, List.length_drop, hl]
  have l3 : (splice cur 0 (iv (xs.take p))).length = cap := by rw [length_splice _ _ _ (by omega)]; exact hcap
  have l4 : (splice (splice cur 0 (iv (xs.take p))) (p + 1) (iv (xs.drop (p + 2)))).length = cap := by rw [length_splice _ _ _ (by omega), l3]
  have L1 := hid l1
  have L2 := hid l2
  have L3 := hid l3
  have L4 := hid l4
  -- what the second copy reads, behind the first
  have HR := hid (fun w1 (h1 : w1.heap[G]? = some (.cells (splice cur 0 (iv (xs.take p))).toArray 3 (0, 0))) (h2 : Below G w w1) (j : Nat) (v : Value) (hv : (iv (xs.drop (p + 2)))[j]? = some v) => show w1.cell? ⟨b, off + (p + 2) + j, none⟩ = some v from by
    obtain ⟨hj, rfl⟩ := iv_inv hv
    rw [List.length_drop] at hj
    rw [Pr.it_drop]
    have e0 := hc (p + 2 + j) (by omega)
    rw [← Nat.add_assoc] at e0
    rcases hov with h | h
    · have hlt := h b off rfl
      rw [h2.cell (p := ⟨b, off + (p + 2) + j, none⟩) hlt]
      exact e0
    · cases h
      rw [cell_row h1, splice_get _ _ _ (by omega), if_neg (by omega), if_neg (by omega)]
      rw [cell_row hG] at e0
      exact e0)
  have HCap := hid hcap
  clear hc hG l1 l2 l3 l4 hov hcap hm R
  obtain ⟨q1, hq1⟩ : ∃ q, q = p + 1 := ⟨_, rfl⟩
  obtain ⟨q2, hq2⟩ : ∃ q, q = p + 2 := ⟨_, rfl⟩
  unfold maxLen at hmx hcm
  have g1 : IntKind.i64.wrap ((p : Int) + 1) = q1 := by rw [i64_in (by omega) (by omega)]; omega
  have g2 : IntKind.i64.wrap ((p : Int) + 2) = q2 := by rw [i64_in (by omega) (by omega)]; omega
  have g3 : IntKind.i64.wrap ((n : Int) - 1) = m := by rw [i64_in (by omega) (by omega)]; have := HM.out; omega
  have k0 : (0 : Int) ≤ p := by omega
  have k1 : (p : Int) ≤ c := by omega
  have k2 : (0 : Int) ≤ q1 := by omega
  have k3 : (q1 : Int) ≤ N := by have := HM.out; omega
  have k4 : (q1 : Int) ≤ cap := by omega
  have k5 : (0 : Int) ≤ q2 := by omega
  have k6 : (q2 : Int) ≤ n := by omega
  have k7 : (q2 : Int) ≤ c := by omega
  have k8 : (N : Int) ≤ cap := by omega
  have k9 : (n : Int) ≤ c := by omega
  have j0 : (p : Int) < N := by have := HM.out; omega
  have j1 : (0 : Int) ≤ m := by omega
  have j2 : (m : Int) ≤ cap := by omega
  have hpn : p < N := by omega
  have HQ1 := hid hq1
  have HQ2 := hid hq2
  have HP := hid hp
  have HN := hid hN
  clear hq1 hq2 hp hN
  go_enter Try.func39, Try.ntmps39
  go_wp2_with (refine wpList_copy_splice rfl _ _ 36 36 rfl 3 Try.underlying36 hszE (some ⟨G, 0, none⟩) (some ⟨b, off, none⟩) N cap p c rfl rfl G 0 cur 3 HG.out (iv (xs.take p)) (by rw [L1.out]; exact (Nat.min_eq_left (Nat.le_of_lt hpn)).symm) (fun _ => ⟨rfl, _, rfl, fun j v hv => by
      obtain ⟨hj, rfl⟩ := iv_inv hv
      rw [List.length_take] at hj
      rw [Addr.add_lit, Pr.it_take (by omega)]
      exact HC.out j (by have := HP.out; omega)⟩) (by rw [L1.out, HCap.out]; omega) (iv_one _) G w (Below.refl _ _) (Nat.le_refl _) ?_; intro w1 hg1 hb1; have G1 := hid hg1.out; have B1 := hid hb1; clear hg1 hb1)
  have fin : ∀ w2, w2.heap[G]? = some (.cells (splice (splice cur 0 (iv (xs.take p))) q1 (iv (xs.drop q2))).toArray 3 (0, 0)) → Below G w w2 → ∀ w3, w3 = w2.setCell ⟨G, p, none⟩ (.int .i64 o) → (∃ cur' : Array Value, w3.heap[G]? = some (.cells cur' 3 (0, 0)) ∧ cur'.size = cap ∧ cur'.toList.take m = iv (Pr.jn xs p o)) ∧ Below G w w3 := by
    intro w2 h1 h2 w3 h3
    subst h3
    rw [HQ1.out, HQ2.out] at h1
    refine ⟨⟨_, set_row h1 _, ?_, ?_⟩, h2.setCell (p := ⟨G, p, none⟩) (Nat.le_refl _) _⟩
    · rw [List.size_toArray, List.length_set]; exact L4.out
    · exact HL.out
  have FIN := hid fin
  clear fin
  by_cases hk : n = q2
  · have LZ := hid (show (iv (xs.drop q2)).length = 0 by rw [HQ2.out, L2.out]; have := HQ2.out; omega)
    have LM := hid (show ∀ x y : Nat, (iv (xs.drop q2)).length = Nat.min (n - q2) y ∧ (iv (xs.drop q2)).length = Nat.min 0 y from fun x y => ⟨by rw [LZ.out, show n - q2 = 0 by omega]; exact (Nat.zero_min y).symm, by rw [LZ.out]; exact (Nat.zero_min y).symm⟩)
    have LF := hid (show q1 + (iv (xs.drop q2)).length ≤ (splice cur 0 (iv (xs.take p))).length by rw [LZ.out, L3.out]; omega)
    have HK := hid hk
    have z1 : (n : Int) ≤ q2 := by omega
    have z2 : n ≤ q2 := by omega
    clear hk
    by_cases h1 : c = q2
    · have h1s := h1.symm
      subst h1s
      by_cases h2 : cap = q1
      · have h2s := h2.symm
        subst h2s
        go_region_held3 (fun _ => True) (trivial) ((refine step_copy_splice rfl _ _ 36 36 rfl 3 Try.underlying36 hszE _ _ _ _ _ _ rfl rfl G q1 (splice cur 0 (iv (xs.take p))) 3 G1.out (iv (xs.drop q2)) (by first | exact (LM.out 0 _).1 | exact (LM.out 0 _).2) (fun h => absurd h (by rw [LZ.out]; decide)) LF.out (iv_one _) G w B1.out.drew (Nat.le_refl _) ?_; intro w2 hg2 hb2))
        obtain ⟨u, hu⟩ : ∃ u, w2.cell? ⟨G, p, none⟩ = some u := ⟨_, (cell_row hg2.out p).trans (List.getElem?_eq_getElem (show p < _ from by rw [HQ1.out, HQ2.out, L4.out]; omega))⟩
        have fz : w2.frozen? ⟨G, p, none⟩ = false := fz_row hg2.out p
        have C2 := hid (FIN.out w2 hg2.out hb2 _ rfl)
        clear hg2 hb2
        go_wp2_with fail
        go_ret
        exact ⟨rfl, C2.out.1, C2.out.2⟩
      · have h2' : ¬ cap = q1 := h2
        go_region_held3 (fun _ => True) (trivial) ((refine step_copy_splice rfl _ _ 36 36 rfl 3 Try.underlying36 hszE _ _ _ _ _ _ rfl rfl G q1 (splice cur 0 (iv (xs.take p))) 3 G1.out (iv (xs.drop q2)) (by first | exact (LM.out 0 _).1 | exact (LM.out 0 _).2) (fun h => absurd h (by rw [LZ.out]; decide)) LF.out (iv_one _) G w B1.out.drew (Nat.le_refl _) ?_; intro w2 hg2 hb2))
        obtain ⟨u, hu⟩ : ∃ u, w2.cell? ⟨G, p, none⟩ = some u := ⟨_, (cell_row hg2.out p).trans (List.getElem?_eq_getElem (show p < _ from by rw [HQ1.out, HQ2.out, L4.out]; omega))⟩
        have fz : w2.frozen? ⟨G, p, none⟩ = false := fz_row hg2.out p
        have C2 := hid (FIN.out w2 hg2.out hb2 _ rfl)
        clear hg2 hb2
        go_wp2_with fail
        go_ret
        exact ⟨rfl, C2.out.1, C2.out.2⟩
    · have h1' : ¬ c = q2 := h1
      by_cases h2 : cap = q1
      · have h2s := h2.symm
        subst h2s
        go_region_held3 (fun _ => True) (trivial) ((refine step_copy_splice rfl _ _ 36 36 rfl 3 Try.underlying36 hszE _ _ _ _ _ _ rfl rfl G q1 (splice cur 0 (iv (xs.take p))) 3 G1.out (iv (xs.drop q2)) (by first | exact (LM.out 0 _).1 | exact (LM.out 0 _).2) (fun h => absurd h (by rw [LZ.out]; decide)) LF.out (iv_one _) G w B1.out.drew (Nat.le_refl _) ?_; intro w2 hg2 hb2))
        obtain ⟨u, hu⟩ : ∃ u, w2.cell? ⟨G, p, none⟩ = some u := ⟨_, (cell_row hg2.out p).trans (List.getElem?_eq_getElem (show p < _ from by rw [HQ1.out, HQ2.out, L4.out]; omega))⟩
        have fz : w2.frozen? ⟨G, p, none⟩ = false := fz_row hg2.out p
        have C2 := hid (FIN.out w2 hg2.out hb2 _ rfl)
        clear hg2 hb2
        go_wp2_with fail
        go_ret
        exact ⟨rfl, C2.out.1, C2.out.2⟩
      · have h2' : ¬ cap = q1 := h2
        go_region_held3 (fun _ => True) (trivial) ((refine step_copy_splice rfl _ _ 36 36 rfl 3 Try.underlying36 hszE _ _ _ _ _ _ rfl rfl G q1 (splice cur 0 (iv (xs.take p))) 3 G1.out (iv (xs.drop q2)) (by first | exact (LM.out 0 _).1 | exact (LM.out 0 _).2) (fun h => absurd h (by rw [LZ.out]; decide)) LF.out (iv_one _) G w B1.out.drew (Nat.le_refl _) ?_; intro w2 hg2 hb2))
        obtain ⟨u, hu⟩ : ∃ u, w2.cell? ⟨G, p, none⟩ = some u := ⟨_, (cell_row hg2.out p).trans (List.getElem?_eq_getElem (show p < _ from by rw [HQ1.out, HQ2.out, L4.out]; omega))⟩
        have fz : w2.frozen? ⟨G, p, none⟩ = false := fz_row hg2.out p
        have C2 := hid (FIN.out w2 hg2.out hb2 _ rfl)
        clear hg2 hb2
        go_wp2_with fail
        go_ret
        exact ⟨rfl, C2.out.1, C2.out.2⟩
  · have h1 : ¬ c = q2 := by omega
    have h2 : ¬ cap = q1 := by have := HM.out; have := HN.out; have := HQ1.out; have := HQ2.out; omega
    have LM := hid (show (iv (xs.drop q2)).length = Nat.min (n - q2) (N - q1) by
      rw [HQ2.out, L2.out, ← HQ2.out]
      exact (Nat.min_eq_left (by have := HM.out; have := HQ1.out; have := HQ2.out; have := HN.out; omega)).symm)
    have LF := hid (show q1 + (iv (xs.drop q2)).length ≤ (splice cur 0 (iv (xs.take p))).length by rw [L3.out, HQ2.out, L2.out]; have := HM.out; have := HN.out; have := HQ1.out; have := HQ2.out; omega)
    have HR2 := hid (show ∀ w1 : World, w1.heap[G]? = some (.cells (splice cur 0 (iv (xs.take p))).toArray 3 (0, 0)) → Below G w w1 → ∀ (j : Nat) (v : Value), (iv (xs.drop q2))[j]? = some v → w1.cell? ⟨b, off + q2 + j, none⟩ = some v by rw [HQ2.out]; exact HR.out)
    have HK := hid hk
    clear hk
    go_region_held3 (fun _ => True) (trivial) ((refine step_copy_splice rfl _ _ 36 36 rfl 3 Try.underlying36 hszE (some ⟨G, q1, none⟩) (some ⟨b, off + q2, none⟩) (N - q1) (cap - q1) (n - q2) (c - q2) rfl rfl G q1 (splice cur 0 (iv (xs.take p))) 3 G1.out (iv (xs.drop q2)) LM.out (fun h => ⟨rfl, _, rfl, fun j v hv => by rw [Addr.add_lit]; exact HR2.out _ G1.out B1.out j v hv⟩) LF.out (iv_one _) G w B1.out.drew (Nat.le_refl _) ?_; intro w2 hg2 hb2))
    obtain ⟨u, hu⟩ : ∃ u, w2.cell? ⟨G, p, none⟩ = some u := ⟨_, (cell_row hg2.out p).trans (List.getElem?_eq_getElem (show p < _ from by rw [HQ1.out, HQ2.out, L4.out]; omega))⟩
    have fz : w2.frozen? ⟨G, p, none⟩ = false := fz_row hg2.out p
    have C2 := hid (FIN.out w2 hg2.out hb2 _ rfl)
    clear hg2 hb2
    go_wp2_with fail
    go_ret
    exact ⟨rfl, C2.out.1, C2.out.2⟩

theorem Try.eqNil (w : World) : (binOp .eql 36 (.slice none 0 0) (.slice none 0 0)).run Try.prog w = .ok (.bool true) w := by kernel_rfl
theorem Try.eqSome (ad : Addr) (n c : Nat) (w : World) : (binOp .eql 36 (.slice (some ad) n c) (.slice none 0 0)).run Try.prog w = .ok (.bool false) w := by kernel_rfl
set_option maxRecDepth 100000 in
set_option maxHeartbeats 3200000 in
theorem clone_calls {w : World} {a : Option Addr} {n c : Nat} {xs : Pr.Row} (R : Ir w a n c xs) (hn : n ≤ 1000000) :
    Calls Try.prog 37 #[.slice a n c] w fun e w' => (∃ v, e = .returned v ∧ w'.ownsRow w.heap.size 3 1 v n (iv xs)) ∧ Below w.heap.size w w' := by
  obtain ⟨i0, hi, hz0, hz1, hz2⟩ := info_parts Try.infoInt
  have hl := R.len
  have en := Try.eqNil
  cases a with
  | none =>
    obtain ⟨rfl, rfl⟩ := R.nil rfl
    have hx : xs = [] := List.eq_nil_of_length_eq_zero hl
    subst hx
    clear R
    go_enter Try.func37, Try.ntmps37
    go_wp2_with fail
    go_ret
    exact ⟨⟨_, rfl, World.ownsRow_nil _ _ _ _⟩, Below.refl _ _⟩
  | some ad =>
    have B1 := hid ((Below.refl w.heap.size w).alloc (Nat.le_refl _) (.cells #[] 3))
    have R1 := hid (R.below B1.out)
    have es := Try.eqSome ad n c
    clear R en
    go_enter Try.func37, Try.ntmps37
    go_wp2_with (at_builtin; refine wpList_append_src rfl _ _ 36 rfl w.heap.size 3 i0 (.int .i64 0) 1 8 Try.underlying36 hi hz0 hz1 hz2 rfl (by decide) _ 0 _ rfl (own_empty w.heap.size rfl (Nat.le_refl _)) (some ad) n c (iv xs) rfl R1.out.src (by unfold maxLen; omega) (by omega) (by simp) ?_; intro v3 w3 own gr loc; have O3 := hid own; have G3 := hid gr; clear own gr loc)
    go_ret
    exact ⟨⟨_, rfl, by have := O3.out; rwa [Nat.zero_add, List.nil_append] at this⟩, B1.out.grown G3.out (by simp) (fun k hk => Nat.le_of_eq (Option.some.inj (show some w.heap.size = some k from hk)))⟩
end Go.Proofs.Ytcjakjmhghoilaa

/-
  Walks of a table's Step and Run.
-/
namespace Go.Proofs.Ytcjakjmhghoilaa
open Go.RowKit Go.Maps
open Pr (it)
set_option linter.unusedVariables false

/-- What Step answers. -/
def StOut (ms : List Mg4) (xs : Pr.Row) (e : Ending) (w' : World) : Prop :=
  (Pr.step ms xs = none ∧ ∃ a c, e = .returned (.tuple #[.slice a 0 c, .bool false]) ∧ Ir w' a 0 c []) ∨
  (∃ ys a m c, Pr.step ms xs = some ys ∧ e = .returned (.tuple #[.slice a m c, .bool true]) ∧ Ir w' a m c ys)
theorem best_ways (ms : List Mg4) (xs : Pr.Row) : (Pr.best ms xs = none ∧ Pr.has (Pr.best ms xs) = false ∧ Pr.step ms xs = none) ∨
    ∃ p k, Pr.best ms xs = some (p, k) ∧ Pr.has (Pr.best ms xs) = true ∧ Pr.plc (Pr.best ms xs) = p ∧ Pr.mrg ms (Pr.best ms xs) = mat ms k ∧ k < ms.length ∧ p + 1 < xs.length ∧ Pr.step ms xs = some (Pr.jn xs p (mat ms k).2.2.1) := by
  cases hb : Pr.best ms xs with
  | none => exact .inl ⟨rfl, rfl, Pr.step_none hb⟩
  | some q =>
    obtain ⟨p, k⟩ := q
    exact .inr ⟨p, k, rfl, rfl, rfl, rfl, (Pr.best_lt hb).2, (Pr.best_lt hb).1, Pr.step_some hb⟩
theorem best_is {w : World} {B : Nat} {ms : List Mg4} {a : Option Addr} {n c : Nat} {xs : Pr.Row} (T : TbIn w B ms) (R : Ir w a n c xs) (F : Fits xs) (hn : n ≤ 1000000) {p x0 x1 x2 x3 : Int} {t : Bool} (hp : Pr.plc (Pr.best ms xs) = p) (hx : Pr.mrg ms (Pr.best ms xs) = (x0, x1, x2, x3)) (ht : Pr.has (Pr.best ms xs) = t) :
    Calls Try.prog 38 #[.pointer (some ⟨B, 0, none⟩), .slice a n c] w fun e w' => e = .returned (.tuple #[.int .i64 p, .agg #[.int .i64 x0, .int .i64 x1, .int .i64 x2, .int .i64 x3], .bool t]) ∧ Below w.heap.size w w' := by
  have h := best_calls T R F hn
  rw [hp, hx, ht] at h
  exact h


/-- What Run answers. -/
def RuOut (ms : List Mg4) (xs : Pr.Row) (e : Ending) (w' : World) : Prop := ∃ a m c, e = .returned (.slice a m c) ∧ Ir w' a m c (Pr.run ms xs)
theorem fits_step {ms : List Mg4} (hF : ∀ k, k < ms.length → (Lit.int .i64 (mat ms k).2.2.1).wf = true) {xs ys : Pr.Row} (h : Fits xs) (hs : Pr.step ms xs = some ys) : Fits ys := by
  rcases best_ways ms xs with ⟨_, _, h1⟩ | ⟨p, k, _, _, _, _, hk, hp, h1⟩
  · rw [h1] at hs; cases hs
  · rw [h1] at hs
    obtain rfl := Option.some.inj hs
    intro x hx
    unfold Pr.jn at hx
    rcases List.mem_append.1 hx with g | g
    · exact h x (List.mem_of_mem_take g)
    · rcases List.mem_cons.1 g with rfl | g
      · exact hF k hk
      · exact h x (List.mem_of_mem_drop g)

set_option maxRecDepth 100000 in
set_option maxHeartbeats 6400000 in
theorem run_calls {w : World} {B : Nat} {ms : List Mg4} {a : Option Addr} {n c : Nat} {xs : Pr.Row} (T : TbIn w B ms) (R : Ir w a n c xs) (F : Fits xs) (hF : ∀ k, k < ms.length → (Lit.int .i64 (mat ms k).2.2.1).wf = true) (hn : n ≤ 1000000) :
    Calls Try.prog 19 #[.pointer (some ⟨B, 0, none⟩), .slice a n c] w fun e w' => RuOut ms xs e w' ∧ Below w.heap.size w w' := by
  have hl := R.len
  have TW := hid T
  have RW := hid R
  have FW := hid F
  have FM := hid hF
  clear T R F hF
  go_enter Try.func19, Try.ntmps19
  go_wp2_with fail
  refine (clone_calls RW.out hn).mono ?_
  rintro e w1 ⟨⟨v, rfl, hv⟩, b1⟩
  have O1 := hid hv
  have B1 := hid b1
  clear hv b1
  go_wp2_with fail
  go_loopg [5] n (fun r ev wr => ∃ (k : Nat) (v : Value) (ys : Pr.Row), k = r ∧ ev = v ∧ k ≤ n ∧ Hid (wr.ownsRow w.heap.size 3 1 v k (iv ys)) ∧ Hid (Pr.run ms ys = Pr.run ms xs) ∧ Hid (Fits ys) ∧ Hid (Below w.heap.size w wr))
  case atStart => exact ⟨n, v, xs, rfl, rfl, Nat.le_refl _, O1, hid rfl, FW, B1⟩
  case round =>
    clear O1 B1
    obtain ⟨k, v, ys, rfl, rfl, hk, HO, HE, HF, HB⟩ := hrel
    obtain ⟨av, cv, rfl, hI⟩ := Ir.ofOwn HO.out
    have hk2 := hI.len
    obtain ⟨p, hp⟩ : ∃ p, Pr.plc (Pr.best ms ys) = p := ⟨_, rfl⟩
    obtain ⟨⟨x0, x1, x2, x3⟩, hx⟩ : ∃ p, Pr.mrg ms (Pr.best ms ys) = p := ⟨_, rfl⟩
    obtain ⟨t, ht⟩ : ∃ p, Pr.has (Pr.best ms ys) = p := ⟨_, rfl⟩
    have BC := hid (best_is (TW.out.below HB.out) hI HF.out (by omega) hp hx ht)
    have WY := hid (best_ways ms ys)
    rw [hp, hx, ht] at WY
    clear hI hp hx ht
    go_wp2_with fail
    refine BC.out.mono ?_
    rintro e w3 ⟨rfl, b3⟩
    have b4 := b3.alloc b3.size (.cells #[.int .i64 x0, .int .i64 x1, .int .i64 x2, .int .i64 x3] 50)
    have O4 := hid (own_below HO.out b4)
    have B4 := hid (HB.out.trans (b4.mono HB.out.size))
    have X4 := hid (Bx4.new w3 50 (.int .i64 x0) (.int .i64 x1) (.int .i64 x2) (.int .i64 x3))
    have x4 := X4.out.cell2
    clear b3 b4 BC HO HB
    rcases WY.out with ⟨_, rfl, hs⟩ | ⟨q, kk, _, rfl, rfl, hm, hkk, hq, hs⟩
    · have HS := hid (show Pr.run ms xs = ys by rw [← HE.out]; exact Pr.run_stop hs)
      clear hs
      have I4 := hid (Ir.ofOwn' O4.out)
      go_wp2_with fail
      go_ret
      exact ⟨⟨_, _, _, rfl, by rw [HS.out]; exact I4.out⟩, B4.out⟩
    · have ho : (mat ms kk).2.2.1 = x2 := by rw [← hm]
      rw [ho] at hs
      rw [hk2] at hq
      have HS := hid (show Pr.run ms (Pr.jn ys q x2) = Pr.run ms xs by rw [← HE.out]; exact (Pr.run_step hs).symm)
      have HF2 := hid (fits_step FM.out HF.out hs)
      obtain ⟨m, hmn⟩ : ∃ m, k = m + 1 := ⟨k - 1, by omega⟩
      have HM := hid hmn
      have I4 := hid (Ir.ofOwn' O4.out)
      rcases O4.out.2 with ⟨_, h0⟩ | ⟨g, cap, cur, hval, hbg, hg, hnc, hmc, hsz, htk⟩
      · omega
      cases hval
      have HJ := hid (join_calls I4.out hmn hq (cur := cur.toList) hg (by rw [Array.length_toList, hsz, Nat.mul_one]) hmc (by omega) hnc (.inr rfl) x2)
      have HBG := hid hbg
      have HMC := hid hmc
      have hnc' := hnc
      clear hs hm ho hkk hmn hbg hg hnc hmc hsz htk I4
      go_wp2_with fail
      refine HJ.out.mono ?_
      rintro e w5 ⟨rfl, ⟨cur', hg5, hs5, ht5⟩, b5⟩
      have O5 := hid (show w5.ownsRow w.heap.size 3 1 (.slice (some ⟨g, 0, none⟩) m cv) m (iv (Pr.jn ys q x2)) from ⟨by rw [iv_length, Pr.jn_len _ (by omega), Nat.mul_one, hk2]; have := HM.out; omega, .inr ⟨g, cv, cur', rfl, HBG.out, hg5, by have := HM.out; omega, HMC.out, by rw [hs5, Nat.mul_one], by rw [Nat.mul_one]; exact ht5⟩⟩)
      have B5 := hid (B4.out.trans (b5.mono HBG.out))
      clear hg5 hs5 ht5 b5 HJ
      go_wp2_with fail
      go_roundg m
      case measure => have := HM.out; omega
      case rel => exact ⟨m, _, Pr.jn ys q x2, rfl, rfl, by have := HM.out; omega, O5, HS, HF2, B5⟩
end Go.Proofs.Ytcjakjmhghoilaa

/-
  Walks of the reference's Same and Text.
-/
namespace Go.Proofs.Ytcjakjmhghoilaa
open Go.RowKit Go.Maps
open Pr (it)
set_option linter.unusedVariables false

set_option maxRecDepth 100000 in
set_option maxHeartbeats 3200000 in
theorem same_calls {w : World} {a b : Option Addr} {n c m d : Nat} {xs ys : Pr.Row} (R : Ir w a n c xs) (Q : Ir w b m d ys) :
    Calls Try.prog 13 #[.slice a n c, .slice b m d] w fun e w' => Says e (xs = ys) ∧ Below w.heap.size w w' := by
  have hl := R.len
  have hk := Q.len
  have hn : n ≤ 9223372036854775807 := by have := R.le; have := R.mx; unfold maxLen at this; omega
  have RW := hid R
  have QW := hid Q
  clear R Q
  by_cases hnm : n = m
  · subst hnm
    go_enter Try.func13, Try.ntmps13
    go_wp2_with fail
    go_loopg [13] n (fun r iv wr => ∃ j : Nat, r = n - j ∧ j ≤ n ∧ iv = .int .i64 j ∧ Hid (∀ i, i < j → it xs i = it ys i) ∧ Hid (Below w.heap.size w wr))
    case atStart => exact ⟨0, rfl, by omega, rfl, hid (fun i hi => by omega), hid (Below.refl _ _)⟩
    case round =>
      obtain ⟨j, rfl, hj, rfl, HA, HB⟩ := hrel
      by_cases hlt : j < n
      · have l0 : (0 : Int) ≤ j := by omega
        have l1 : (j : Int) < n := by omega
        have l2 : IntKind.i64.wrap ((j : Int) + 1) = j + 1 := i64_in (by omega) (by omega)
        obtain ⟨b1, o1, rfl, hb1, hc1⟩ := (RW.out.below HB.out).at' (by omega)
        obtain ⟨b2, o2, rfl, hb2, hc2⟩ := (QW.out.below HB.out).at' (by omega)
        have q1 := hc1 j hlt
        have q2 := hc2 j hlt
        obtain ⟨x, hx⟩ : ∃ x, it xs j = x := ⟨_, rfl⟩
        obtain ⟨y, hy⟩ : ∃ x, it ys j = x := ⟨_, rfl⟩
        rw [hx] at q1
        rw [hy] at q2
        have HX := hid hx
        have HY := hid hy
        clear hc1 hc2 hx hy
        by_cases hs : x = y
        · subst hs
          go_wp2_with fail
          go_quiet (fail)
          have HB2 := hid (below_drewN HB.out nq)
          go_wp2_with fail
          go_roundg (n - (j + 1))
          case measure => omega
          case rel => exact ⟨j + 1, rfl, by omega, by go_num, hid (fun i hi => by
            by_cases h : i < j
            · exact HA.out i h
            · obtain rfl : i = j := by omega
              rw [HX.out, HY.out]), HB2⟩
        · have e1 : (x == y) = false := by simpa using hs
          have HN := hid (show ¬ xs = ys from fun h => hs (by rw [← HX.out, ← HY.out, h]))
          go_wp2_with fail
          go_quiet (fail)
          have HB2 := hid (below_drewN HB.out nq)
          go_wp2_with fail
          go_ret
          exact ⟨Says.no HN.out, HB2.out⟩
      · have l1 : ¬ (j : Int) < n := by omega
        have HN := hid (show xs = ys from Pr.it_ext (by omega) (fun i hi => HA.out i (by omega)))
        go_wp2_with fail
        go_ret
        exact ⟨Says.yes HN.out, HB.out⟩
  · have e1 : ((n : Int) == (m : Int)) = false := by simpa using fun h => hnm (by omega)
    have HN := hid (show ¬ xs = ys from fun h => hnm (by rw [← hl, ← hk, h]))
    go_enter Try.func13, Try.ntmps13
    go_wp2_with fail
    go_ret
    exact ⟨Says.no HN.out, Below.refl _ _⟩

/-- What Text answers. -/
def TxOut (ts : Vc.Toks) (xs : Pr.Row) (e : Ending) : Prop :=
  (Pr.Toks ts xs ∧ ∃ s, e = .returned (.tuple #[.string s, .bool true]) ∧ by_ s = Pr.cat ts xs) ∨ (¬ Pr.Toks ts xs ∧ e = .returned (.tuple #[.string ⟨#[]⟩, .bool false]))
theorem take_snoc {xs : Pr.Row} {j : Nat} (h : j < xs.length) : xs.take (j + 1) = xs.take j ++ [it xs j] := by
  rw [List.take_add_one, Pr.it_get h]
  rfl

set_option maxRecDepth 100000 in
set_option maxHeartbeats 6400000 in
theorem text_calls {w : World} {a am az ar : Option Addr} {n c nm cm ns cs k d : Nat} {ts : Vc.Toks} {ms : List Mg4} {sp : Vc.Sps} {xs : Pr.Row} (V : Vo w a n c am nm cm az ns cs ts ms sp) (R : Ir w ar k d xs) (hz : ∀ i, i < n → (at_ ts i).size ≤ 1000000) (hk : k ≤ 1000000) :
    Calls Try.prog 20 #[.agg #[.slice a n c, .slice am nm cm, .slice az ns cs], .slice ar k d] w fun e w' => TxOut ts xs e ∧ Below w.heap.size w w' := by
  have hl := V.T.len
  have hlr := R.len
  have B0 := hid ((Below.refl w.heap.size w).alloc (Nat.le_refl _) (.cells #[.slice a n c, .slice am nm cm, .slice az ns cs] 26))
  have X0 := hid (Bx3.new w 26 (.slice a n c) (.slice am nm cm) (.slice az ns cs))
  have TW := hid V.T
  have RW := hid R
  have HZ := hid hz
  clear V R hz
  go_enter Try.func20, Try.ntmps20
  go_wp2_with fail
  go_loopg [6, 10] k (fun r sv iv wr => ∃ (j : Nat) (s : ByteArray), r = k - j ∧ j ≤ k ∧ iv = .int .i64 j ∧ sv = .string s ∧ Hid (∀ i, i < j → Vc.Is ts (it xs i)) ∧ Hid (by_ s = Pr.cat ts (xs.take j)) ∧ Hid (s.size ≤ j * 1000000) ∧ Hid (Bx3 wr w.heap.size 26 (.slice a n c) (.slice am nm cm) (.slice az ns cs)) ∧ Hid (Below w.heap.size w wr))
  case atStart => exact ⟨0, ⟨#[]⟩, rfl, by omega, rfl, rfl, hid (fun i hi => by omega), hid rfl, hid (Nat.le_refl _), X0, B0⟩
  case round =>
    obtain ⟨j, s, rfl, hj, rfl, rfl, HA, HS, HL, HX, HB⟩ := hrel
    by_cases hlt : j < k
    · have l0 : (0 : Int) ≤ j := by omega
      have l1 : (j : Int) < k := by omega
      have l2 : IntKind.i64.wrap ((j : Int) + 1) = j + 1 := i64_in (by omega) (by omega)
      obtain ⟨b1, o1, rfl, hb1, hc1⟩ := (RW.out.below HB.out).at' (by omega)
      have q1 := hc1 j hlt
      obtain ⟨x, hx⟩ : ∃ x, it xs j = x := ⟨_, rfl⟩
      rw [hx] at q1
      have HXx := hid hx
      clear hc1 hx
      have c0 := HX.out.cell0
      by_cases g0 : x < 0
      · have HN := hid (show ¬ Pr.Toks ts xs from fun h => by
          have := (h _ (Pr.it_mem (xs := xs) (i := j) (by omega))).1
          rw [HXx.out] at this; omega)
        go_wp2_with fail
        go_quiet (fail)
        have HB2 := hid (below_drewN HB.out nq)
        go_wp2_with fail
        go_ret2
        exact ⟨.inr ⟨HN.out, rfl⟩, HB2.out⟩
      have d0 : decide (x < (0 : Int)) = false := decide_eq_false g0
      by_cases g1 : (n : Int) ≤ x
      · have HN := hid (show ¬ Pr.Toks ts xs from fun h => by
          have := (h _ (Pr.it_mem (xs := xs) (i := j) (by omega))).2.1
          rw [HXx.out] at this; omega)
        go_wp2_with fail
        go_quiet (fail)
        have HB2 := hid (below_drewN HB.out nq)
        go_wp2_with fail
        go_ret2
        exact ⟨.inr ⟨HN.out, rfl⟩, HB2.out⟩
      have d1 : decide ((n : Int) ≤ x) = false := decide_eq_false g1
      obtain ⟨q, rfl⟩ : ∃ q : Nat, x = q := ⟨x.toNat, by omega⟩
      have hq : q < n := by omega
      have f0 : (0 : Int) ≤ q := by omega
      have f1 : (q : Int) < n := by omega
      have f2 : ¬ n ≤ q := by omega
      obtain ⟨b2, o2, rfl, hb2, hc2⟩ := (TW.out.below HB.out).at' (by omega)
      have q2 := hc2 q hq
      have hzq := HZ.out q hq
      obtain ⟨t, ht⟩ : ∃ t, at_ ts q = t := ⟨_, rfl⟩
      rw [ht] at q2 hzq
      have HT := hid ht
      clear hc2 ht
      by_cases hz : t.size = 0
      · have e1 := (ba_empty hz).1
        have e2 := (ba_empty hz).2
        have HN := hid (show ¬ Pr.Toks ts xs from fun h => by
          have := (h _ (Pr.it_mem (xs := xs) (i := j) (by omega))).2.2
          rw [HXx.out, Int.toNat_natCast, HT.out] at this; exact this hz)
        clear hz
        go_wp2_with fail
        go_quiet (fail)
        have HB2 := hid (below_drewN HB.out nq)
        go_wp2_with fail
        go_ret2
        exact ⟨.inr ⟨HN.out, rfl⟩, HB2.out⟩
      · have e1 := (ba_full hz).1
        have e2 := (ba_full hz).2
        have HI := hid (show Vc.Is ts (it xs j) from by rw [HXx.out]; exact ⟨f0, by omega, by rw [Int.toNat_natCast, HT.out]; exact hz⟩)
        have hsz : ¬ 9223372036854775807 < s.size + t.size := by
          have := HL.out
          have : j * 1000000 ≤ 1000000 * 1000000 := Nat.mul_le_mul (by omega) (Nat.le_refl _)
          omega
        have HS2 := hid (show by_ (s ++ t) = Pr.cat ts (xs.take (j + 1)) by
          rw [by_append, HS.out, take_snoc (by omega)]
          unfold Pr.cat
          rw [List.flatMap_append, List.flatMap_cons, List.flatMap_nil, List.append_nil, HXx.out]
          unfold Vc.tok
          rw [Int.toNat_natCast, HT.out])
        have HL2 := hid (show (s ++ t).size ≤ (j + 1) * 1000000 by
          have := HL.out
          rw [ByteArray.size_append, Nat.add_mul]
          omega)
        clear hz
        have X3 := hid (fun d => HX.out.below (below_drewN (Below.refl _ _) d) HX.out.lt)
        have B3 := hid (fun d => below_drewN HB.out d)
        go_wp2_with fail
        go_quiet (fail)
        have Xq := hid (X3.out nq)
        have Bq := hid (B3.out nq)
        have z1 : (wr.drewN nq).cell? ⟨b1, o1 + j, none⟩ = some (.int .i64 (q : Int)) := q1
        have z2 : (wr.drewN nq).cell? ⟨b2, o2 + q, none⟩ = some (.string t) := q2
        obtain ⟨w3, hw3⟩ : ∃ w3, wr.drewN nq = w3 := ⟨_, rfl⟩
        rw [hw3] at Xq Bq z1 z2 ⊢
        clear hw3 X3 B3 HX HB q1 q2 c0
        have c0 := Xq.out.cell0
        have X5 := hid (fun d => Xq.out.below (below_drewN (Below.refl _ _) d) Xq.out.lt)
        have B5 := hid (fun d => below_drewN Bq.out d)
        go_wp2_with fail
        go_quiet (fail)
        have X6 := hid (X5.out nq)
        have B6 := hid (B5.out nq)
        go_wp2_with fail
        go_roundg (k - (j + 1))
        case measure => omega
        case rel => exact ⟨j + 1, s ++ t, rfl, by omega, by go_num, rfl, hid (fun i hi => by
          by_cases h : i < j
          · exact HA.out i h
          · obtain rfl : i = j := by omega
            exact HI.out), HS2, HL2, X6, B6⟩
    · have l1 : ¬ (j : Int) < k := by omega
      have HN := hid (show Pr.Toks ts xs from fun x hx => by
        obtain ⟨i, hi, e⟩ := List.mem_iff_getElem.1 hx
        have e2 : it xs i = x := by simp [it, hi, e]
        rw [← e2]
        exact HA.out i (by omega))
      have HE := hid (show by_ s = Pr.cat ts xs by rw [HS.out, List.take_of_length_le (by omega)])
      go_wp2_with fail
      go_ret2
      exact ⟨.inl ⟨HN.out, s, rfl, HE.out⟩, HB.out⟩
end Go.Proofs.Ytcjakjmhghoilaa

/-
  Walks of the reference's Best, Step and Run.
-/
namespace Go.Proofs.Ytcjakjmhghoilaa
open Go.RowKit Go.Maps
open Pr (it)
set_option linter.unusedVariables false

namespace Pr
def pz (q : Option (Nat × Nat)) : Int := match q with | none => -1 | some x => x.1
def kz (q : Option (Nat × Nat)) : Int := match q with | none => -1 | some x => x.2
/-- One place more, by places. -/
theorem bst_waysR (ms : List Mg4) (xs : Row) (j : Nat) :
    (fz ms (it xs j) (it xs (j + 1)) = -1 ∧ bst ms xs (j + 1) = bst ms xs j) ∨
    (∃ k : Nat, fz ms (it xs j) (it xs (j + 1)) = k ∧ k < ms.length ∧ kz (bst ms xs j) = -1 ∧ pz (bst ms xs (j + 1)) = j ∧ kz (bst ms xs (j + 1)) = k) ∨
    (∃ k b : Nat, fz ms (it xs j) (it xs (j + 1)) = k ∧ k < ms.length ∧ kz (bst ms xs j) = b ∧ b < ms.length ∧ ord ms k < ord ms b ∧ pz (bst ms xs (j + 1)) = j ∧ kz (bst ms xs (j + 1)) = k) ∨
    (∃ k b : Nat, fz ms (it xs j) (it xs (j + 1)) = k ∧ k < ms.length ∧ kz (bst ms xs j) = b ∧ b < ms.length ∧ ¬ ord ms k < ord ms b ∧ bst ms xs (j + 1) = bst ms xs j) := by
  unfold fz
  cases hf : fnd ms (it xs j) (it xs (j + 1)) with
  | none => exact .inl ⟨rfl, bst_none' hf⟩
  | some k =>
    right
    have hk := (fnd_some hf).1
    cases hb : bst ms xs j with
    | none =>
      rw [bst_new hf hb]
      exact .inl ⟨k, rfl, hk, rfl, rfl, rfl⟩
    | some q =>
      obtain ⟨p, b⟩ := q
      have hbl := (fnd_some (bst_some hb).fd).1
      by_cases hl : ord ms k < ord ms b
      · rw [bst_less hf hb hl]
        exact .inr (.inl ⟨k, b, rfl, hk, rfl, hbl, hl, rfl, rfl⟩)
      · rw [bst_keep hf hb hl]
        exact .inr (.inr ⟨k, b, rfl, hk, rfl, hbl, hl, rfl⟩)
end Pr

set_option maxRecDepth 100000 in
set_option maxHeartbeats 6400000 in
theorem rbest_calls {w : World} {a am az ar : Option Addr} {n c nm cm ns cs m d : Nat} {ts : Vc.Toks} {ms : List Mg4} {sp : Vc.Sps} {xs : Pr.Row} (V : Vo w a n c am nm cm az ns cs ts ms sp) (R : Ir w ar m d xs) (hm : nm ≤ 1000000) (hn : m ≤ 1000000) :
    Calls Try.prog 61 #[.agg #[.slice a n c, .slice am nm cm, .slice az ns cs], .slice ar m d] w fun e w' => e = .returned (.tuple #[.int .i64 (Pr.pz (Pr.best ms xs)), .int .i64 (Pr.kz (Pr.best ms xs))]) ∧ Below w.heap.size w w' := by
  have hl := R.len
  have hlm := V.M.len
  have B0 := hid ((Below.refl w.heap.size w).alloc (Nat.le_refl _) (.cells #[.slice a n c, .slice am nm cm, .slice az ns cs] 26))
  have X0 := hid (Bx3.new w 26 (.slice a n c) (.slice am nm cm) (.slice az ns cs))
  have MW := hid V.M
  have RW := hid R
  clear V R
  go_enter Try.func61, Try.ntmps61
  go_wp2_with fail
  go_loopg [6, 7, 8] m (fun r pv kv iv wr => ∃ (j : Nat) (px kx : Int), r = m - j ∧ iv = .int .i64 (j : Int) ∧ pv = .int .i64 px ∧ kv = .int .i64 kx ∧ ((m = 0 ∧ j = 0) ∨ j + 1 ≤ m) ∧ Hid (px = Pr.pz (Pr.bst ms xs j) ∧ kx = Pr.kz (Pr.bst ms xs j)) ∧ Hid (Bx3 wr w.heap.size 26 (.slice a n c) (.slice am nm cm) (.slice az ns cs)) ∧ Hid (Below w.heap.size w wr))
  case atStart => exact ⟨0, -1, -1, rfl, rfl, rfl, rfl, by omega, hid ⟨rfl, rfl⟩, X0, B0⟩
  case round =>
    obtain ⟨j, px, kx, rfl, rfl, rfl, rfl, hj, HV, HX, HB⟩ := hrel
    have e1 : IntKind.i64.wrap ((j : Int) + 1) = j + 1 := i64_in (by omega) (by omega)
    by_cases hlt : j + 1 < m
    · have k1 : (j : Int) + 1 < m := by omega
      have k0 : (0 : Int) ≤ j := by omega
      have k2 : (0 : Int) ≤ (j : Int) + 1 := by omega
      have k3 : (j : Int) < m := by omega
      have hB1 := HB.out.size
      have hX1 := HX.out.lt
      have M1 := hid (MW.out.below HB.out)
      obtain ⟨b, off, rfl, hbl, hc⟩ := (RW.out.below HB.out).at' (by omega)
      have p0 := hc j (by omega)
      have p1 := hc (j + 1) hlt
      have WY := hid (Pr.bst_waysR ms xs j)
      obtain ⟨l, hx⟩ : ∃ x, it xs j = x := ⟨_, rfl⟩
      obtain ⟨r, hy⟩ : ∃ x, it xs (j + 1) = x := ⟨_, rfl⟩
      rw [hx] at p0 WY
      rw [hy] at p1 WY
      obtain ⟨f, hf⟩ : ∃ x, Pr.fz ms l r = x := ⟨_, rfl⟩
      have FC := hid (show ∀ W, Below wr.heap.size wr W → Calls Try.prog 76 #[.agg #[.slice a n c, .slice am nm cm, .slice az ns cs], .int .i64 l, .int .i64 r] W fun e w' => e = .returned (.int .i64 f) ∧ Below W.heap.size W w' from fun W hW => by
        have := rfind_calls (a := a) (n := n) (c := c) (az := az) (ns := ns) (cs := cs) (M1.out.below hW) l r hm
        rw [hf] at this
        exact this)
      rw [hf] at WY
      have c0 := HX.out.cell0
      have c1 := HX.out.cell1
      have c2 := HX.out.cell2
      clear hc hx hy hf
      go_wp2_with fail
      go_region_held3 (fun w' => w'.cell? ⟨w.heap.size, 0, none⟩ = some (.slice a n c) ∧ w'.cell? ⟨w.heap.size, 1, none⟩ = some (.slice am nm cm) ∧ w'.cell? ⟨w.heap.size, 2, none⟩ = some (.slice az ns cs) ∧ w'.cell? ⟨b, off + j, none⟩ = some (.int .i64 l) ∧ w'.cell? ⟨b, off + (j + 1), none⟩ = some (.int .i64 r)) (first | with_reducible exact N2.out | go_keep) (first | (go_at_call 76; refine (FC.out _ (Below.refl _ _).drew).mono ?_; rintro e w2 ⟨rfl, b2⟩; have B2 := hid (show Below wr.heap.size wr w2 from (Below.refl _ wr).drew.trans b2); have N2 := hid (show w2.cell? ⟨w.heap.size, 0, none⟩ = some (.slice a n c) ∧ w2.cell? ⟨w.heap.size, 1, none⟩ = some (.slice am nm cm) ∧ w2.cell? ⟨w.heap.size, 2, none⟩ = some (.slice az ns cs) ∧ w2.cell? ⟨b, off + j, none⟩ = some (.int .i64 l) ∧ w2.cell? ⟨b, off + (j + 1), none⟩ = some (.int .i64 r) from ⟨(B2.out.cell (p := ⟨w.heap.size, 0, none⟩) hX1).trans c0, (B2.out.cell (p := ⟨w.heap.size, 1, none⟩) hX1).trans c1, (B2.out.cell (p := ⟨w.heap.size, 2, none⟩) hX1).trans c2, (B2.out.cell (p := ⟨b, off + j, none⟩) hbl).trans p0, (B2.out.cell (p := ⟨b, off + (j + 1), none⟩) hbl).trans p1⟩); clear b2))
      have X2 := hid (HX.out.below B2.out HX.out.lt)
      have B3 := hid (HB.out.trans (B2.out.mono HB.out.size))
      have M2 := hid (M1.out.below B2.out)
      clear HX HB B2 N2 FC p0 p1 c0 c1 c2 M1 hB1 hX1
      have x1 := X2.out.cell1
      have X5 := hid (fun d => X2.out.below (below_drewN (Below.refl _ _) d) X2.out.lt)
      have B5 := hid (fun d => below_drewN B3.out d)
      rcases WY.out with ⟨rfl, hs⟩ | ⟨k, rfl, hk, hh, h1, h2⟩ | ⟨k, bb, rfl, hk, hh, hbb, hlo, h1, h2⟩ | ⟨k, bb, rfl, hk, hh, hbb, hlo, hs⟩
      · have HVn := hid (show px = Pr.pz (Pr.bst ms xs (j + 1)) ∧ kx = Pr.kz (Pr.bst ms xs (j + 1)) from by rw [hs]; exact HV.out)
        clear hs
        go_wp2_with fail
        go_quiet (fail)
        have X6 := hid (X5.out nq)
        have B6 := hid (B5.out nq)
        go_wp2_with fail
        go_roundg (m - (j + 1))
        case measure => omega
        case rel => exact ⟨j + 1, px, kx, rfl, by go_num, rfl, rfl, by omega, HVn, X6, B6⟩
      · have hkx : kx = -1 := HV.out.2.trans hh
        subst hkx
        have g0 : (0 : Int) ≤ k := by omega
        have HVn := hid (show (j : Int) = Pr.pz (Pr.bst ms xs (j + 1)) ∧ (k : Int) = Pr.kz (Pr.bst ms xs (j + 1)) from ⟨h1.symm, h2.symm⟩)
        clear hh h1 h2
        go_wp2_with fail
        go_quiet (fail)
        have X6 := hid (X5.out nq)
        have B6 := hid (B5.out nq)
        go_wp2_with fail
        go_roundg (m - (j + 1))
        case measure => omega
        case rel => exact ⟨j + 1, j, k, rfl, by go_num, rfl, rfl, by omega, HVn, X6, B6⟩
      · have hkx : kx = bb := HV.out.2.trans hh
        subst hkx
        obtain ⟨b7, o7, rfl, hb7, hc7⟩ := M2.out.at' (by omega)
        have q1 := (hc7 k (by omega)).2.2.2
        have q2 := (hc7 bb (by omega)).2.2.2
        obtain ⟨u1, hu1⟩ : ∃ x, (mat ms k).2.2.2 = x := ⟨_, rfl⟩
        obtain ⟨u2, hu2⟩ : ∃ x, (mat ms bb).2.2.2 = x := ⟨_, rfl⟩
        have hlo2 : u1 < u2 := by rw [← hu1, ← hu2]; exact hlo
        rw [hu1] at q1
        rw [hu2] at q2
        have g0 : (0 : Int) ≤ k := by omega
        have g1 : (0 : Int) ≤ bb := by omega
        have g2 : decide ((bb : Int) < 0) = false := decide_eq_false (by omega)
        have g3 : (k : Int) < nm := by omega
        have g4 : (bb : Int) < nm := by omega
        have HVn := hid (show (j : Int) = Pr.pz (Pr.bst ms xs (j + 1)) ∧ (k : Int) = Pr.kz (Pr.bst ms xs (j + 1)) from ⟨h1.symm, h2.symm⟩)
        clear hh h1 h2 hlo hu1 hu2 hc7
        go_wp2_with fail
        go_quiet (fail)
        have X6 := hid (X5.out nq)
        have B6 := hid (B5.out nq)
        go_wp2_with fail
        go_roundg (m - (j + 1))
        case measure => omega
        case rel => exact ⟨j + 1, j, k, rfl, by go_num, rfl, rfl, by omega, HVn, X6, B6⟩
      · have hkx : kx = bb := HV.out.2.trans hh
        subst hkx
        obtain ⟨b7, o7, rfl, hb7, hc7⟩ := M2.out.at' (by omega)
        have q1 := (hc7 k (by omega)).2.2.2
        have q2 := (hc7 bb (by omega)).2.2.2
        obtain ⟨u1, hu1⟩ : ∃ x, (mat ms k).2.2.2 = x := ⟨_, rfl⟩
        obtain ⟨u2, hu2⟩ : ∃ x, (mat ms bb).2.2.2 = x := ⟨_, rfl⟩
        have hlo2 : decide (u1 < u2) = false := decide_eq_false (by rw [← hu1, ← hu2]; exact Int.not_lt.2 hlo)
        rw [hu1] at q1
        rw [hu2] at q2
        have g0 : (0 : Int) ≤ k := by omega
        have g1 : (0 : Int) ≤ bb := by omega
        have g2 : decide ((bb : Int) < 0) = false := decide_eq_false (by omega)
        have g3 : (k : Int) < nm := by omega
        have g4 : (bb : Int) < nm := by omega
        have HVn := hid (show px = Pr.pz (Pr.bst ms xs (j + 1)) ∧ (bb : Int) = Pr.kz (Pr.bst ms xs (j + 1)) from by rw [hs]; exact HV.out)
        clear hh hs hlo hu1 hu2 hc7
        go_wp2_with fail
        go_quiet (fail)
        have X6 := hid (X5.out nq)
        have B6 := hid (B5.out nq)
        go_wp2_with fail
        go_roundg (m - (j + 1))
        case measure => omega
        case rel => exact ⟨j + 1, px, bb, rfl, by go_num, rfl, rfl, by omega, HVn, X6, B6⟩
    · have k1 : ¬ (j : Int) + 1 < m := by omega
      have HE := hid (show Pr.bst ms xs j = Pr.best ms xs by unfold Pr.best; congr 1; omega)
      have HV2 := hid HV.out
      rw [HE.out] at HV2
      go_wp2_with fail
      go_ret2
      exact ⟨by rw [← HV2.out.1, ← HV2.out.2]; rfl, HB.out⟩

set_option maxRecDepth 100000 in
set_option maxHeartbeats 6400000 in
theorem rstep_calls {w : World} {a am az ar : Option Addr} {n c nm cm ns cs m d : Nat} {ts : Vc.Toks} {ms : List Mg4} {sp : Vc.Sps} {xs : Pr.Row} (V : Vo w a n c am nm cm az ns cs ts ms sp) (R : Ir w ar m d xs) (hm : nm ≤ 1000000) (hn : m ≤ 1000000) :
    Calls Try.prog 50 #[.agg #[.slice a n c, .slice am nm cm, .slice az ns cs], .slice ar m d] w fun e w' => StOut ms xs e w' ∧ Below w.heap.size w w' := by
  obtain ⟨i0, hi, hz0, hz1, hz2⟩ := info_parts Try.infoInt
  have hl := R.len
  have hlm := V.M.len
  have B0 := hid ((Below.refl w.heap.size w).alloc (Nat.le_refl _) (.cells #[.slice a n c, .slice am nm cm, .slice az ns cs] 26))
  have X0 := hid (Bx3.new w 26 (.slice a n c) (.slice am nm cm) (.slice az ns cs))
  have V0 := hid (V.below B0.out)
  have R0 := hid (R.below B0.out)
  clear V R
  have x0 := X0.out.cell0
  have x1 := X0.out.cell1
  have x2 := X0.out.cell2
  go_enter Try.func50, Try.ntmps50
  go_wp2_with fail
  refine (rbest_calls V0.out R0.out hm hn).mono ?_
  rintro e w1 ⟨rfl, b1⟩
  have X1 := hid (X0.out.below b1 X0.out.lt)
  have M1 := hid (V0.out.M.below b1)
  have R1 := hid (R0.out.below b1)
  have B1 := hid (B0.out.trans (b1.mono B0.out.size))
  have hb1 := B1.out.size
  clear b1 X0 V0 R0 B0 x0 x1 x2
  cases hb : Pr.best ms xs with
  | none =>
    have HS := hid (Pr.step_none hb)
    clear hb
    have e1 : Pr.kz none = -1 := rfl
    have e2 : Pr.pz none = -1 := rfl
    rw [e1, e2]
    have B2 := hid (B1.out.alloc hb1 (.cells #[] 3))
    have I2 := hid (Ir.zero (w1.alloc (.cells #[] 3)) (some ⟨w1.heap.size, 0, none⟩) 0 (Nat.zero_le _) (fun h => by cases h))
    go_wp2_with fail
    go_ret2
    exact ⟨.inl ⟨HS.out, _, _, rfl, I2.out⟩, B2.out⟩
  | some q =>
    obtain ⟨p, k⟩ := q
    have hlt := Pr.best_lt hb
    have HS := hid (Pr.step_some hb)
    have e1 : Pr.kz (some (p, k)) = (k : Int) := rfl
    have e2 : Pr.pz (some (p, k)) = (p : Int) := rfl
    rw [e1, e2]
    clear hb e1 e2
    rw [hl, hlm] at hlt
    obtain ⟨hp, hk⟩ := hlt
    obtain ⟨b7, o7, rfl, hb7, hc7⟩ := M1.out.at' (by omega)
    have q1 := (hc7 k hk).2.2.1
    obtain ⟨o, ho⟩ : ∃ x, (mat ms k).2.2.1 = x := ⟨_, rfl⟩
    rw [ho] at q1 HS
    obtain ⟨br, or, rfl, hbr, hcr⟩ := R1.out.at' (by omega)
    have hle := R1.out.le
    have hmx := R1.out.mx
    unfold maxLen at hmx
    clear hc7 ho hcr
    have g0 : decide ((k : Int) < 0) = false := decide_eq_false (by omega)
    have g1 : (0 : Int) ≤ k := by omega
    have g2 : (k : Int) < nm := by omega
    have g3 : (0 : Int) ≤ p := by omega
    have g4 : (p : Int) ≤ d := by omega
    obtain ⟨q2, hq2⟩ : ∃ q, q = p + 2 := ⟨_, rfl⟩
    have g5 : IntKind.i64.wrap ((p : Int) + 2) = q2 := by rw [i64_in (by omega) (by omega)]; omega
    have g6 : (0 : Int) ≤ q2 := by omega
    have g7 : (q2 : Int) ≤ m := by omega
    have g8 : (q2 : Int) ≤ d := by omega
    have g9 : (m : Int) ≤ d := by omega
    have HQ2 := hid hq2
    have x1 := X1.out.cell1
    -- the three that are appended
    have C2 := hid ((Below.refl w1.heap.size w1).alloc (Nat.le_refl _) (.cells #[] 3))
    have F2 := hid ((R1.out.below C2.out).first p (by omega))
    have HJ := hid (show iv (Pr.jn xs p o) = iv (xs.take p) ++ [.int .i64 o] ++ iv (xs.drop q2) by
      rw [hq2]
      unfold Pr.jn iv
      simp)
    have x12 := (X1.out.alloc (.cells #[] 3)).cell1
    have hpm : p ≤ m := by omega
    clear hq2 hp
    by_cases hd : d = q2
    · have hds := hd.symm
      subst hds
      have hdz : xs.drop q2 = [] := List.drop_eq_nil_of_le (by omega)
      have HD := hid hdz
      clear hdz
      go_wp2_with (first | (at_builtin; refine wpList_append_src rfl _ _ 36 rfl w1.heap.size 3 i0 (.int .i64 0) 1 8 Try.underlying36 hi hz0 hz1 hz2 rfl (by decide) _ 0 _ rfl (own_empty w1.heap.size rfl (Nat.le_refl _)) (some ⟨br, or, none⟩) p q2 (iv (xs.take p)) rfl F2.out.src (by unfold maxLen; omega) (by omega) (by simp) ?_; intro v3 w3 own gr loc; rw [Nat.zero_add, List.nil_append] at own; obtain ⟨a3, c3, rfl, _⟩ := Ir.ofOwn own; have O3 := hid own; have C3 := hid (C2.out.grown gr (by simp) (fun g h => Nat.le_of_eq (Option.some.inj (show some w1.heap.size = some g from h)))); have x13 := (X1.out.below C3.out X1.out.lt).cell1; have q13 := (C3.out.cell (p := ⟨b7, o7 + k * 4 + 2, none⟩) hb7).trans q1; have C4 := hid (C3.out.alloc C3.out.size (.cells #[.int .i64 o] 3)); clear own gr loc) | (at_builtin; refine wpList_append_src rfl _ _ 36 rfl w1.heap.size 3 i0 (.int .i64 0) 1 8 Try.underlying36 hi hz0 hz1 hz2 rfl (by decide) _ p _ rfl (O3.out.alloc _) (some ⟨w3.heap.size, 0, none⟩) 1 1 [.int .i64 o] rfl (Src.new #[.int .i64 o] 3 w3.heap.size rfl rfl (by simp [Value.oneCell'])) (by unfold maxLen; omega) (by omega) (by have := C3.out.size; simp; omega) ?_; intro v5 w5 own gr loc; obtain ⟨a5, c5, rfl, _⟩ := Ir.ofOwn (xs := xs.take p ++ [o]) (by rw [← iv_append]; exact own); have O5 := hid own; have C5 := hid (C4.out.grown gr C4.out.size (fun g h => ((O3.out.lt g h).1))); clear own gr loc) | (at_builtin; refine wpList_append_src rfl _ _ 36 rfl w1.heap.size 3 i0 (.int .i64 0) 1 8 Try.underlying36 hi hz0 hz1 hz2 rfl (by decide) _ (p + 1) _ rfl O5.out (some ⟨br, or, none⟩) 0 0 (iv (xs.drop q2)) rfl (Ir.src (show Ir w5 (some ⟨br, or, none⟩) 0 0 (xs.drop q2) from by rw [HD.out]; exact Ir.zero w5 _ 0 (Nat.zero_le _) (fun _ => rfl))) (by unfold maxLen; omega) (by omega) C5.out.size ?_; intro v7 w7 own gr loc; obtain ⟨a7, c7, rfl, I7⟩ := Ir.ofOwn (xs := Pr.jn xs p o) (by rw [HJ.out]; exact own); have J7 := hid I7; have C7 := hid (C5.out.grown gr C5.out.size (fun g h => ((O5.out.lt g h).1))); clear own gr loc I7))
      go_ret2
      exact ⟨.inr ⟨_, _, _, _, HS.out, rfl, J7.out⟩, B1.out.trans (C7.out.mono hb1)⟩
    · have hd' : ¬ d = q2 := hd
      go_wp2_with (first | (at_builtin; refine wpList_append_src rfl _ _ 36 rfl w1.heap.size 3 i0 (.int .i64 0) 1 8 Try.underlying36 hi hz0 hz1 hz2 rfl (by decide) _ 0 _ rfl (own_empty w1.heap.size rfl (Nat.le_refl _)) (some ⟨br, or, none⟩) p d (iv (xs.take p)) rfl F2.out.src (by unfold maxLen; omega) (by omega) (by simp) ?_; intro v3 w3 own gr loc; rw [Nat.zero_add, List.nil_append] at own; obtain ⟨a3, c3, rfl, _⟩ := Ir.ofOwn own; have O3 := hid own; have C3 := hid (C2.out.grown gr (by simp) (fun g h => Nat.le_of_eq (Option.some.inj (show some w1.heap.size = some g from h)))); have x13 := (X1.out.below C3.out X1.out.lt).cell1; have q13 := (C3.out.cell (p := ⟨b7, o7 + k * 4 + 2, none⟩) hb7).trans q1; have C4 := hid (C3.out.alloc C3.out.size (.cells #[.int .i64 o] 3)); clear own gr loc) | (at_builtin; refine wpList_append_src rfl _ _ 36 rfl w1.heap.size 3 i0 (.int .i64 0) 1 8 Try.underlying36 hi hz0 hz1 hz2 rfl (by decide) _ p _ rfl (O3.out.alloc _) (some ⟨w3.heap.size, 0, none⟩) 1 1 [.int .i64 o] rfl (Src.new #[.int .i64 o] 3 w3.heap.size rfl rfl (by simp [Value.oneCell'])) (by unfold maxLen; omega) (by omega) (by have := C3.out.size; simp; omega) ?_; intro v5 w5 own gr loc; obtain ⟨a5, c5, rfl, _⟩ := Ir.ofOwn (xs := xs.take p ++ [o]) (by rw [← iv_append]; exact own); have O5 := hid own; have C5 := hid (C4.out.grown gr C4.out.size (fun g h => ((O3.out.lt g h).1))); clear own gr loc) | (at_builtin; refine wpList_append_src rfl _ _ 36 rfl w1.heap.size 3 i0 (.int .i64 0) 1 8 Try.underlying36 hi hz0 hz1 hz2 rfl (by decide) _ (p + 1) _ rfl O5.out (some ⟨br, or + q2, none⟩) (m - q2) (d - q2) (iv (xs.drop q2)) rfl (Ir.src ((R1.out.below C5.out).cut q2 (by omega))) (by unfold maxLen; omega) (by omega) C5.out.size ?_; intro v7 w7 own gr loc; obtain ⟨a7, c7, rfl, I7⟩ := Ir.ofOwn (xs := Pr.jn xs p o) (by rw [HJ.out]; exact own); have J7 := hid I7; have C7 := hid (C5.out.grown gr C5.out.size (fun g h => ((O5.out.lt g h).1))); clear own gr loc I7))
      go_ret2
      exact ⟨.inr ⟨_, _, _, _, HS.out, rfl, J7.out⟩, B1.out.trans (C7.out.mono hb1)⟩

set_option maxRecDepth 100000 in
set_option maxHeartbeats 6400000 in
theorem rrun_calls {w : World} {a am az ar : Option Addr} {n c nm cm ns cs m d : Nat} {ts : Vc.Toks} {ms : List Mg4} {sp : Vc.Sps} {xs : Pr.Row} (V : Vo w a n c am nm cm az ns cs ts ms sp) (R : Ir w ar m d xs) (hm : nm ≤ 1000000) (hn : m ≤ 1000000) :
    Calls Try.prog 35 #[.agg #[.slice a n c, .slice am nm cm, .slice az ns cs], .slice ar m d] w fun e w' => RuOut ms xs e w' ∧ Below w.heap.size w w' := by
  have hl := R.len
  have B0 := hid ((Below.refl w.heap.size w).alloc (Nat.le_refl _) (.cells #[.slice a n c, .slice am nm cm, .slice az ns cs] 26))
  have X0 := hid (Bx3.new w 26 (.slice a n c) (.slice am nm cm) (.slice az ns cs))
  have R0 := hid (R.below B0.out)
  have VW := hid V
  clear V R
  go_enter Try.func35, Try.ntmps35
  go_wp2_with fail
  go_loopg [5, 11] m (fun r ov iv' wr => ∃ (j k kc : Nat) (ao : Option Addr) (ys : Pr.Row), r = m - j ∧ iv' = .int .i64 (j : Int) ∧ ov = .slice ao k kc ∧ j ≤ m ∧ k ≤ m ∧ Hid (Ir wr ao k kc ys) ∧ Hid (Pr.runN ms (m - j) ys = Pr.run ms xs) ∧ Hid (Bx3 wr w.heap.size 26 (.slice a n c) (.slice am nm cm) (.slice az ns cs)) ∧ Hid (Below w.heap.size w wr))
  case atStart => exact ⟨0, m, d, ar, xs, rfl, rfl, rfl, by omega, by omega, R0, hid (by unfold Pr.run; rw [hl]; rfl), X0, B0⟩
  case round =>
    clear R0 X0 B0
    obtain ⟨j, k, kc, ao, ys, rfl, rfl, rfl, hj, hk, HI, HE, HX, HB⟩ := hrel
    by_cases hlt : j < m
    · have l0 : (0 : Int) ≤ j := by omega
      have l1 : (j : Int) < m := by omega
      have l2 : IntKind.i64.wrap ((j : Int) + 1) = j + 1 := i64_in (by omega) (by omega)
      have c0 := HX.out.cell0
      have c1 := HX.out.cell1
      have c2 := HX.out.cell2
      obtain ⟨q, hq⟩ : ∃ q, m - j = q + 1 := ⟨m - j - 1, by omega⟩
      have hq2 : m - (j + 1) = q := by omega
      have HQ := hid hq2
      rw [hq] at HE
      clear hq hq2
      go_wp2_with fail
      refine (rstep_calls (VW.out.below HB.out) HI.out hm (by omega)).mono ?_
      rintro e w2 ⟨E2, b2⟩
      have X2 := hid (HX.out.below b2 HX.out.lt)
      have B2 := hid (HB.out.trans (b2.mono HB.out.size))
      have I2 := hid (HI.out.below b2)
      have hlen := HI.out.len
      clear b2 HX HB HI c0 c1 c2
      rcases E2 with ⟨hs, ea, ec, rfl, he⟩ | ⟨zs, za, zm, zc, hs, rfl, he⟩
      · have HS := hid (show Pr.run ms xs = ys by rw [← HE.out]; exact Pr.runN_stop hs _)
        clear hs he
        go_wp2_with fail
        go_ret
        exact ⟨⟨_, _, _, rfl, by rw [HS.out]; exact I2.out⟩, B2.out⟩
      · have hzl := he.len
        have hsl := Pr.step_len hs
        have HS := hid (show Pr.runN ms (m - (j + 1)) zs = Pr.run ms xs by rw [← HE.out, HQ.out]; exact (Pr.runN_step hs q).symm)
        have I3 := hid he
        have hzm : zm ≤ m := by omega
        clear hs he hzl hsl
        go_wp2_with fail
        go_roundg (m - (j + 1))
        case measure => omega
        case rel => exact ⟨j + 1, zm, zc, za, zs, rfl, by go_num, rfl, by omega, hzm, I3, HS, X2, B2⟩
    · have l1 : ¬ (j : Int) < m := by omega
      have HS := hid (show Pr.run ms xs = ys by rw [← HE.out, show m - j = 0 by omega]; rfl)
      go_wp2_with fail
      go_ret
      exact ⟨⟨_, _, _, rfl, by rw [HS.out]; exact HI.out⟩, HB.out⟩
end Go.Proofs.Ytcjakjmhghoilaa
