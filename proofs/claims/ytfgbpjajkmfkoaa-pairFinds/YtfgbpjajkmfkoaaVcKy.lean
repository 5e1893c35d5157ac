/-
  Maps in memory over calls that make memory; two numbers as a key; look-ups in the map of the tokens' numbers.
-/
import Derived.Test.YtfgbpjajkmfkoaaVcW6
import Derived.DeepKeys5
import Derived.MapViews
namespace Go.Proofs.Ytfgbpjajkmfkoaa
open Go.RowKit Go.Maps
set_option linter.unusedVariables false

theorem owns_below {H : Type} {P : Program} {k : TypeId} {R : Value → Option (DataW H × List MemPlace)} {w w' : World} {b n N : Nat} {D : DataW H} (h : w.ownsMap P k R b n D) (hb : Below N w w') (hn : b < N) : w'.ownsMap P k R b n D := by
  obtain ⟨es, clock, h1, r⟩ := h
  exact ⟨es, clock, (hb.block b hn).trans h1, r⟩
theorem NumsIn.below {w w' : World} {M j N : Nat} {ts : Vc.Toks} (h : NumsIn w M ts j) (hb : Below N w w') (hn : M < N) : NumsIn w' M ts j := by
  obtain ⟨m, D, hm, ho, hd⟩ := h
  exact ⟨m, D, hm, owns_below ho hb hn, hd⟩
theorem NumsIn.alloc {w : World} {M j : Nat} {ts : Vc.Toks} (h : NumsIn w M ts j) (o : Obj) : NumsIn (w.alloc o) M ts j := by
  obtain ⟨m, D, hm, ho, hd⟩ := h
  exact ⟨m, D, hm, ho.alloc o, hd⟩
theorem NumsIn.drew {w : World} {M j : Nat} {ts : Vc.Toks} (h : NumsIn w M ts j) : NumsIn w.drew M ts j := h
theorem NumsIn.lt {w : World} {M j : Nat} {ts : Vc.Toks} (h : NumsIn w M ts j) : M < w.heap.size := by
  obtain ⟨m, D, hm, ho, hd⟩ := h
  exact ho.lt
theorem NumsIn.kept {w w' : World} {M j : Nat} {ts : Vc.Toks} {row : Option Nat} (h : NumsIn w M ts j) (hg : w.grownBy w' row) (hne : some M ≠ row) : NumsIn w' M ts j := by
  obtain ⟨m, D, hm, ho, hd⟩ := h
  exact ⟨m, D, hm, ho.kept hg hne, hd⟩

theorem Try.zeroI (w : World) : (zeroValue 3).run Try.prog w = .ok (.int .i64 0) w := by kernel_rfl
theorem Try.zeroU (w : World) : (zeroValue 84).run Try.prog w = .ok (.agg #[]) w := by kernel_rfl

/-- What a look-up of a text says. -/
theorem NumsIn.look {w : World} {M j : Nat} {ts : Vc.Toks} (h : NumsIn w M ts j) (s : ByteArray) (hs : s.size ≤ maxLen) :
    ∃ (c : Int) (t : Bool), (Instr.lookup 75 (.map (some M)) (.string s) true).run Try.prog w = .ok (.tuple #[.int .i64 c, .bool t]) w ∧ ((t = true ∧ ∃ k : Nat, c = k ∧ Vc.lastOf ts j s = some k) ∨ (t = false ∧ Vc.lastOf ts j s = none)) := by
  obtain ⟨m, D, hm, ho, hd⟩ := h
  obtain ⟨v, ps, hrun, hv⟩ := ho.look_ok (string_keyed Try.underlying9) Try.underlying75 (Try.zeroI w) (plainElem_int Try.underlying3 (by decide)) (Go.WideMaps.keyOf_string_mk Try.underlying9 hs)
  obtain ⟨c, rfl, hc, hwc⟩ := plainElem_int_inv Try.underlying3 hv
  refine ⟨c, _, hrun, ?_⟩
  obtain ⟨h1, h2⟩ := hd s
  cases hq : Vc.lastOf ts j s with
  | none => right; rw [hq] at h1; exact ⟨h1, rfl⟩
  | some k =>
    left
    rw [hq] at h1
    refine ⟨h1, k, ?_, rfl⟩
    have h3 := h2 k hq
    simp only [Prod.mk.injEq] at hc
    have h4 := hc.1
    rw [show D.atKey (Lit.string s.data.toList) (DataW.lit (Lit.int IntKind.i64 0)) = DataW.lit (Lit.int .i64 (k : Int)) from h3] at h4
    simpa using h4.symm
theorem NumsIn.look1 {w : World} {M j : Nat} {ts : Vc.Toks} (h : NumsIn w M ts j) (s : ByteArray) (hs : s.size ≤ maxLen) {k : Nat} (hk : Vc.lastOf ts j s = some k) :
    (Instr.lookup 75 (.map (some M)) (.string s) false).run Try.prog w = .ok (.int .i64 (k : Int)) w := by
  obtain ⟨m, D, hm, ho, hd⟩ := h
  obtain ⟨c, hrun, hat, _⟩ := ho.lookup_int (string_keyed Try.underlying9) Try.underlying75 Try.underlying3 (Try.zeroI w) (Go.WideMaps.keyOf_string_mk Try.underlying9 hs)
  have h3 := (hd s).2 k hk
  rw [show D.atKey (Lit.string s.data.toList) (DataW.lit (Lit.int IntKind.i64 0)) = DataW.lit (Lit.int .i64 (k : Int)) from h3] at hat
  have : c = k := by simpa using hat.symm
  rw [hrun, this]

/-! ### Two numbers as a key -/
theorem Try.laidOut : laidOutB Try.prog = true := by kernel_rfl
theorem Try.rowPt : (83 : TypeId) < Try.prog.types.size := of_decide_eq_true (by kernel_rfl)
theorem Try.cellsPt : Try.prog.cellsOf 83 = 2 := by kernel_rfl
theorem Try.deepPt : Try.prog.keyTypeAt (Try.prog.types.size + 1) 83 = true := by kernel_rfl
theorem Try.keyPt3 : Try.prog.keyTypeAt 3 83 = true := by kernel_rfl
theorem Try.keyed : Keyed Try.prog 83 := by
  refine Keyed.of_law (deep_law_laid Try.laidOut (m := 3) (by omega) Try.rowPt Try.keyPt3 ?_)
  rw [Try.underlying83]
theorem Try.formedPt {c0 c1 : Value} : (Value.agg #[c0, c1]).formed Try.prog 83 = true := by simp [Value.formed, Try.underlying83, Try.cellsPt]
theorem keyLits_two {P : Program} {t e : TypeId} {f0 f1 : Field} {d : Nat} {l r : Int} (hu : P.underlying t = some (.struct #[f0, f1])) (he : P.underlying e = some (.int .i64)) (t0 : f0.type = e) (t1 : f1.type = e) (o0 : f0.offset = 0) (o1 : f1.offset = 1) (n0 : (f0.name != "_") = true) (n1 : (f1.name != "_") = true)
    (hc : P.cellsOf t = 2) (hce : P.cellsOf e = 1) (hl : (Lit.int .i64 l).wf = true) (hr : (Lit.int .i64 r).wf = true) : P.keyLits (d + 1 + 1) t [.int .i64 l, .int .i64 r] = some [.int .i64 l, .int .i64 r] := by
  have a : P.keyLits (d + 1) e [.int .i64 l] = some [.int .i64 l] := by simp [Program.keyLits, he, hl]
  have b : P.keyLits (d + 1) e [.int .i64 r] = some [.int .i64 r] := by simp [Program.keyLits, he, hr]
  unfold Program.keyLits
  rw [hu]
  show (if [Value.int .i64 l, Value.int .i64 r].length = P.cellsOf t ∧ (#[f0, f1] : Array Field).all (·.name != "_") = true then ((#[f0, f1] : Array Field).toList.mapM fun f => P.keyLits (d + 1) f.type (([Value.int .i64 l, Value.int .i64 r].drop f.offset).take (P.cellsOf f.type))).map List.flatten else none) = _
  rw [if_pos ⟨by rw [hc]; rfl, by simp [n0, n1]⟩]
  simp [t0, t1, o0, o1, hce, a, b]
theorem Try.sizeTy : ∃ d, Try.prog.types.size = d + 1 := ⟨Try.prog.types.size - 1, by have : 0 < Try.prog.types.size := of_decide_eq_true (by kernel_rfl); omega⟩
theorem Try.keyTy : Try.prog.keyType 83 = true := by kernel_rfl
theorem Try.cellsI : Try.prog.cellsOf 3 = 1 := by kernel_rfl
theorem key_pt (l r : Int) (hl : (Lit.int .i64 l).wf = true) (hr : (Lit.int .i64 r).wf = true) : ∃ kl, keyOf Try.prog 83 (.agg #[.int .i64 l, .int .i64 r]) = some kl := by
  obtain ⟨d, hd⟩ := Try.sizeTy
  have h := keyLits_two (d := d) Try.underlying83 Try.underlying3 rfl rfl rfl rfl (by decide) (by decide) Try.cellsPt Try.cellsI hl hr
  refine ⟨.string (keyBytes [.int .i64 l, .int .i64 r]), ?_⟩
  unfold keyOf
  rw [Try.underlying83]
  show (if (Try.prog.keyType 83 && (Value.agg #[.int .i64 l, .int .i64 r]).formed Try.prog 83) = true then (Try.prog.keyLits (Try.prog.types.size + 1) 83 [.int .i64 l, .int .i64 r]).map fun ls => Lit.string (keyBytes ls) else none) = _
  rw [Try.keyTy, Try.formedPt, if_pos (by rfl), hd, h]
  rfl
end Go.Proofs.Ytfgbpjajkmfkoaa
