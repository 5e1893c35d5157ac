/-
  package utf's Decode, for whatever slice of bytes.
-/
import Derived.Test.YtaejoleijmihhaaUtfW4
import Derived.Test.YtaejoleijmihhaaSl
namespace Go.Proofs.Ytaejoleijmihhaa
open Go.RowKit
set_option linter.unusedVariables false

theorem decode_calls (a : Option Addr) (n cap : Nat) (f : Nat → Int) (fin : Bool) (w : World) (h : Sl w a n cap f) :
    Calls Try.prog 19 #[.slice a n cap, .bool fin] w fun e w' => e = .returned (D3 (Utf.dec f n fin)) ∧ w' = w := by
  by_cases hn : n = 0
  · subst hn
    refine (decode_none a cap fin w).mono ?_
    rintro e w' ⟨rfl, rfl⟩
    exact ⟨by simp [Utf.dec, D3], rfl⟩
  · obtain ⟨b, off, rfl, _, hc⟩ := h.at' (by omega)
    exact decode_some b off n cap f fin w (by omega) h.le h.mx ⟨hc, h.bd⟩

theorem Try.info8 : (Try.prog.info? 5).map (fun i => (i.zero, i.size, i.bytes)) = some (some (.int .u8 0), 1, 1) := by kernel_rfl

/-- A slice of bytes that came in, as the row's frame tells it. -/
theorem Sl.ofRow {w : World} {a : Option Addr} {len cap : Nat} {zs : List Int}
    (h : (a = none ∧ len = 0 ∧ cap = 0 ∧ zs = []) ∨ ∃ x, a = some x ∧ len ≤ cap ∧ cap ≤ maxLen ∧ zs.length = cap ∧ (∀ i, i < zs.length → w.cell? (x.add i) = some (.int .u8 (zs.getD i 0))) ∧ ∀ n ∈ zs, (Lit.int .u8 n).wf = true) :
    Sl w a len cap (fun i => zs.getD i 0) := by
  rcases h with ⟨rfl, rfl, rfl, rfl⟩ | ⟨x, rfl, hl, hm, hz, hcell, hwz⟩
  · exact ⟨Nat.le_refl _, Nat.zero_le _, fun i => by simp, fun _ => ⟨rfl, rfl⟩, fun h => absurd h (by omega)⟩
  · refine ⟨hl, hm, fun i => ?_, fun h => absurd h (by simp), fun h0 => ?_⟩
    · by_cases hi : i < zs.length
      · have hw := hwz (zs.getD i 0) (by rw [List.getD_eq_getElem?_getD, List.getElem?_eq_getElem hi]; exact List.getElem_mem hi)
        simp [Lit.wf, IntKind.min, IntKind.max, IntKind.signed, IntKind.bits] at hw
        simpa using hw
      · rw [List.getD_eq_getElem?_getD, List.getElem?_eq_none (by omega)]; simp
    · obtain ⟨b, off, spot⟩ := x
      have hs : spot = none := by
        have := World.cell?_spot (hcell 0 (by omega))
        simpa [Addr.add] using this
      subst hs
      have hc : ∀ i, i < len → w.cell? ⟨b, off + i, none⟩ = some (.int .u8 (zs.getD i 0)) := fun i hi => by
        have := hcell i (by omega)
        rwa [Addr.add_lit] at this
      exact ⟨b, off, rfl, World.block_lt_of_cell? _ _ (hc 0 h0), hc⟩
end Go.Proofs.Ytaejoleijmihhaa
