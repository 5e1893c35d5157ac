/-
  Merges in a map, by their two tokens; a table in memory.
-/
import Derived.Test.YtfgbpjajkmfkoaaVcW11
import Derived.Test.YtfgbpjajkmfkoaaIr
import Derived.Maps.OwnSet
import Derived.DeepKeys5
namespace Go.Proofs.Ytfgbpjajkmfkoaa
open Go.RowKit Go.Maps
set_option linter.unusedVariables false

theorem Try.rowPp : (60 : TypeId) < Try.prog.types.size := of_decide_eq_true (by kernel_rfl)
theorem Try.cellsPp : Try.prog.cellsOf 60 = 2 := by kernel_rfl
theorem Try.keyPp3 : Try.prog.keyTypeAt 3 60 = true := by kernel_rfl
theorem Try.keyedP : Keyed Try.prog 60 := by
  refine Keyed.of_law (deep_law_laid Try.laidOut (m := 3) (by omega) Try.rowPp Try.keyPp3 ?_)
  rw [Try.underlying60]
theorem Try.formedPp {c0 c1 : Value} : (Value.agg #[c0, c1]).formed Try.prog 60 = true := by simp [Value.formed, Try.underlying60, Try.cellsPp]
theorem Try.keyTyP : Try.prog.keyType 60 = true := by kernel_rfl
theorem key_pp (l r : Int) (hl : (Lit.int .i64 l).wf = true) (hr : (Lit.int .i64 r).wf = true) : ∃ kl, keyOf Try.prog 60 (.agg #[.int .i64 l, .int .i64 r]) = some kl := by
  obtain ⟨d, hd⟩ := Try.sizeTy
  have h := keyLits_two (d := d) Try.underlying60 Try.underlying3 rfl rfl rfl rfl (by decide) (by decide) Try.cellsPp Try.cellsI hl hr
  refine ⟨.string (keyBytes [.int .i64 l, .int .i64 r]), ?_⟩
  unfold keyOf
  rw [Try.underlying60]
  show (if (Try.prog.keyType 60 && (Value.agg #[.int .i64 l, .int .i64 r]).formed Try.prog 60) = true then (Try.prog.keyLits (Try.prog.types.size + 1) 60 [.int .i64 l, .int .i64 r]).map fun ls => Lit.string (keyBytes ls) else none) = _
  rw [Try.keyTyP, Try.formedPp, if_pos (by rfl), hd, h]
  rfl
theorem Try.zeroM (w : World) : (zeroValue 34).run Try.prog w = .ok (.agg #[.int .i64 0, .int .i64 0, .int .i64 0, .int .i64 0]) w := by kernel_rfl

/-- A merge as a value, and how it reads. -/
def vm (m : Mg4) : Value := .agg #[.int .i64 m.1, .int .i64 m.2.1, .int .i64 m.2.2.1, .int .i64 m.2.2.2]
def lm (m : Mg4) : DataW Unit := .agg [.lit (.int .i64 m.1), .lit (.int .i64 m.2.1), .lit (.int .i64 m.2.2.1), .lit (.int .i64 m.2.2.2)]
def mgElem (v : Value) : Option (DataW Unit × List MemPlace) :=
  match v with
  | .agg xs => (match xs.toList with | [.int .i64 a, .int .i64 b, .int .i64 c, .int .i64 d] => some (lm (a, b, c, d), []) | _ => none)
  | _ => none
theorem mgElem_mk (m : Mg4) : mgElem (vm m) = some (lm m, []) := rfl
theorem mgElem_inv {v : Value} {z : DataW Unit × List MemPlace} (h : mgElem v = some z) : ∃ m, v = vm m ∧ z = (lm m, []) := by
  cases v with
  | agg xs =>
    obtain ⟨l⟩ := xs
    match l, h with
    | [.int .i64 a, .int .i64 b, .int .i64 c, .int .i64 d], h => exact ⟨(a, b, c, d), rfl, (Option.some.inj h).symm⟩
  | _ => simp [mgElem] at h
theorem lm_inj {a b : Mg4} (h : lm a = lm b) : a = b := by
  obtain ⟨a1, a2, a3, a4⟩ := a
  obtain ⟨b1, b2, b3, b4⟩ := b
  simp only [lm, DataW.agg.injEq, List.cons.injEq, DataW.lit.injEq, Lit.int.injEq, true_and, and_true] at h
  obtain ⟨rfl, rfl, rfl, rfl⟩ := h
  rfl
theorem atKey_gone {H : Type} {D : DataW H} (hD : IsMap D) {k : Lit} (h : Maps.has D k = false) (z : DataW H) : D.atKey k z = z := by
  obtain ⟨es, rfl⟩ := hD
  simp only [DataW.atKey]
  cases hf : es.find? (fun p => p.1.sameKey k) with
  | none => rfl
  | some p =>
    have h1 := List.mem_of_find?_eq_some hf
    have h2 := List.find?_some hf
    simp only [Maps.has] at h
    exact absurd (List.any_eq_true.2 ⟨p, h1, h2⟩) (by rw [h]; decide)

/-- What a map says of the first j merges. -/
def MgD (ms : List Mg4) (j : Nat) (D : DataW Unit) : Prop := ∀ l r kl, keyOf Try.prog 60 (.agg #[.int .i64 l, .int .i64 r]) = some kl →
  (Maps.has D kl = true ↔ ∃ i, i < j ∧ (mat ms i).1 = l ∧ (mat ms i).2.1 = r) ∧ ∀ i, i < j → (mat ms i).1 = l → (mat ms i).2.1 = r → ∀ z, D.atKey kl z = lm (mat ms i)
def MgIn (w : World) (M : Nat) (ms : List Mg4) (j : Nat) : Prop :=
  ∃ (m : Nat) (D : DataW Unit), m ≤ j ∧ w.ownsMap Try.prog 60 mgElem M m D ∧ MgD ms j D
theorem MgIn.below {w w' : World} {M j N : Nat} {ms : List Mg4} (h : MgIn w M ms j) (hb : Below N w w') (hn : M < N) : MgIn w' M ms j := by
  obtain ⟨m, D, hm, ho, hd⟩ := h
  exact ⟨m, D, hm, owns_below ho hb hn, hd⟩
theorem MgIn.alloc {w : World} {M j : Nat} {ms : List Mg4} (h : MgIn w M ms j) (o : Obj) : MgIn (w.alloc o) M ms j := by
  obtain ⟨m, D, hm, ho, hd⟩ := h
  exact ⟨m, D, hm, ho.alloc o, hd⟩
theorem MgIn.lt {w : World} {M j : Nat} {ms : List Mg4} (h : MgIn w M ms j) : M < w.heap.size := by
  obtain ⟨m, D, hm, ho, hd⟩ := h
  exact ho.lt
theorem mgIn_none (w : World) (ms : List Mg4) : MgIn (w.alloc (.map #[] 0)) w.heap.size ms 0 :=
  ⟨0, _, Nat.le_refl _, World.ownsMap_made w _ _ _, fun l r kl _ => ⟨⟨fun h => by simp [Maps.has] at h, fun ⟨i, hi, _⟩ => by omega⟩, fun i hi => by omega⟩⟩
theorem mgD_put {ms : List Mg4} {j : Nat} {D : DataW Unit} (hD : IsMap D) (hd : MgD ms j D) (hap : ∀ i, i < j → ¬ ((mat ms i).1 = (mat ms j).1 ∧ (mat ms i).2.1 = (mat ms j).2.1)) {kl : Lit}
    (hk : keyOf Try.prog 60 (.agg #[.int .i64 (mat ms j).1, .int .i64 (mat ms j).2.1]) = some kl) : MgD ms (j + 1) (D.put kl (lm (mat ms j))) := by
  intro l r kl' hk'
  by_cases he : kl' = kl
  · subst he
    have h := Try.keyedP.inj hk hk'
    simp only [Value.agg.injEq, Array.mk.injEq, List.cons.injEq, Value.int.injEq, true_and, and_true] at h
    obtain ⟨e1, e2⟩ := h
    have hkk := Try.keyedP.key hk
    refine ⟨⟨fun _ => ⟨j, by omega, e1, e2⟩, fun _ => has_put_same hD hkk _⟩, fun i hi h1 h2 z => ?_⟩
    rw [atKey_put_same hD hkk]
    by_cases hij : i = j
    · rw [hij]
    · exact absurd ⟨h1.trans e1.symm, h2.trans e2.symm⟩ (hap i (by omega))
  · rw [has_put_other he]
    obtain ⟨g1, g2⟩ := hd l r kl' hk'
    refine ⟨⟨fun h => ?_, fun ⟨i, hi, h1, h2⟩ => ?_⟩, fun i hi h1 h2 z => ?_⟩
    · obtain ⟨i, hi, h⟩ := g1.1 h
      exact ⟨i, by omega, h⟩
    · refine g1.2 ⟨i, ?_, h1, h2⟩
      by_cases hij : i < j
      · exact hij
      · obtain rfl : i = j := by omega
        rw [h1, h2] at hk
        exact absurd (Option.some.inj (hk'.symm.trans hk)) he
    · rw [atKey_put_other he]
      refine g2 i ?_ h1 h2 z
      by_cases hij : i < j
      · exact hij
      · obtain rfl : i = j := by omega
        rw [h1, h2] at hk
        exact absurd (Option.some.inj (hk'.symm.trans hk)) he

/-- What a look-up says. -/
theorem MgIn.look {w : World} {M : Nat} {ms : List Mg4} (h : MgIn w M ms ms.length) (l r : Int) (hl : (Lit.int .i64 l).wf = true) (hr : (Lit.int .i64 r).wf = true) :
    (Instr.lookup 58 (.map (some M)) (.agg #[.int .i64 l, .int .i64 r]) true).run Try.prog w = .ok (.tuple #[vm (Pr.fm ms l r), .bool (Pr.fb ms l r)]) w := by
  obtain ⟨m, D, hm, ho, hd⟩ := h
  obtain ⟨kl, hkl⟩ := key_pp l r hl hr
  obtain ⟨v, ps, hrun, hv⟩ := ho.look_ok Try.keyedP Try.underlying58 (Try.zeroM w) (mgElem_mk (0, 0, 0, 0)) hkl
  obtain ⟨m', rfl, hz⟩ := mgElem_inv hv
  obtain ⟨g1, g2⟩ := hd l r kl hkl
  have hz1 := congrArg Prod.fst hz
  simp only at hz1
  rw [hrun]
  cases hf : Pr.fnd ms l r with
  | some k =>
    obtain ⟨hk, h1, h2⟩ := Pr.fnd_some hf
    have e1 : Maps.has D kl = true := g1.2 ⟨k, hk, h1, h2⟩
    rw [g2 k hk h1 h2] at hz1
    have e2 := lm_inj hz1
    have e3 : Pr.fm ms l r = mat ms k := by unfold Pr.fm; rw [hf]
    have e4 : Pr.fb ms l r = true := by unfold Pr.fb; rw [hf]; rfl
    rw [e1, e3, e4, e2]
  | none =>
    have e1 : Maps.has D kl = false := by
      cases hh : Maps.has D kl with
      | false => rfl
      | true =>
        obtain ⟨i, hi, h1, h2⟩ := g1.1 hh
        exact absurd ⟨h1, h2⟩ (Pr.fnd_none hf i hi)
    rw [atKey_gone ho.isMap e1] at hz1
    have e2 : (0, 0, 0, 0) = m' := lm_inj hz1
    have e3 : Pr.fm ms l r = (0, 0, 0, 0) := by unfold Pr.fm; rw [hf]
    have e4 : Pr.fb ms l r = false := by unfold Pr.fb; rw [hf]; rfl
    rw [e1, e3, e4, e2]

/-- A table in memory. -/
def TbIn (w : World) (B : Nat) (ms : List Mg4) : Prop := ∃ M, w.cell? ⟨B, 0, none⟩ = some (.map (some M)) ∧ MgIn w M ms ms.length
theorem TbIn.lt {w : World} {B : Nat} {ms : List Mg4} (h : TbIn w B ms) : B < w.heap.size := by
  obtain ⟨M, h1, _⟩ := h
  exact World.block_lt_of_cell? _ _ h1
theorem TbIn.below {w w' : World} {B : Nat} {ms : List Mg4} (h : TbIn w B ms) (hb : Below w.heap.size w w') : TbIn w' B ms := by
  have hl := h.lt
  obtain ⟨M, h1, h2⟩ := h
  exact ⟨M, by rw [hb.cell (p := ⟨B, 0, none⟩) hl]; exact h1, h2.below hb h2.lt⟩
end Go.Proofs.Ytfgbpjajkmfkoaa
