/-
  Any string, told by its bytes; what came in as a slice of bytes, opened. No program is named here.
-/
import Derived.Test.YtfgbpjajkmfkoaaSt
import Derived.OpenShut
namespace Go.Proofs.Ytfgbpjajkmfkoaa
open Go.RowKit

def bytesF (s : ByteArray) (i : Nat) : Int := ((s.data.getD i 0).toNat : Nat)
theorem St.any (s : ByteArray) : St s s.size (bytesF s) := by
  refine ⟨rfl, fun i h => ?_, fun i => ?_⟩
  · unfold bytesF
    rw [show s.data.getD i 0 = s.data[i]'h by unfold Array.getD; rw [dif_pos (show i < s.data.size from h)]; rfl]
    rfl
  · unfold bytesF
    have := (s.data.getD i 0).toNat_lt
    omega

section
open Go.ChangeShapes Go.WideShapes
variable {H0 : Type} {enc : TypeId × Value → H0} {P : Program} {w : World} {base : Nat} {spare : Nat → Bool} {held : Bool}

theorem open_sl {r : Reach} {b0 : Nat} {t e : TypeId} {v : Value} {d : DataW H0} {p : List MemPlace} (ht : P.underlying t = some (.slice e)) (he : P.underlying e = some (.int .u8)) (hc : P.cellsOf e = 1)
    (hv : Value.okWide P w r b0 t v) (h : DataW.Trod enc P w base spare held t v d p) : ∃ a n c f, v = .slice a n c ∧ Sl w a n c f := by
  obtain ⟨a, n, c, rfl⟩ := okWide_slice ht hv
  obtain ⟨fuel, hf⟩ := h
  rcases open_ints ht he hc hf with ⟨hcs, _⟩ | ⟨x, l, k, zs, hcs, _, hl, hm, hz, _, hcell, hwz⟩
  · simp [Value.cells] at hcs
    obtain ⟨rfl, rfl, rfl⟩ := hcs
    exact ⟨none, 0, 0, fun _ => 0, rfl, Nat.le_refl _, Nat.zero_le _, fun i => by simp, fun _ => ⟨rfl, rfl⟩, fun h => absurd h (by omega)⟩
  · simp [Value.cells] at hcs
    obtain ⟨rfl, rfl, rfl⟩ := hcs
    have hln : n ≤ zs.length := by rw [hz]; split <;> omega
    refine ⟨some x, n, c, fun i => zs.getD i 0, rfl, hl, hm, fun i => ?_, fun h => absurd h (by simp), fun h0 => ?_⟩
    · by_cases hi : i < zs.length
      · have hw := hwz (zs.getD i 0) (by rw [List.getD_eq_getElem?_getD, List.getElem?_eq_getElem hi]; exact List.getElem_mem hi)
        simp [Lit.wf, IntKind.min, IntKind.max, IntKind.signed, IntKind.bits] at hw
        simpa using hw
      · rw [List.getD_eq_getElem?_getD, List.getElem?_eq_none (by omega)]; simp
    · obtain ⟨b, off, spot⟩ := x
      have hs : spot = none := by
        have := World.cell?_spot (hcell 0 (by omega))
        simpa [Addr.add] using this
      subst hs
      have hc : ∀ i, i < n → w.cell? ⟨b, off + i, none⟩ = some (.int .u8 (zs.getD i 0)) := fun i hi => by
        have := hcell i (by omega)
        rwa [Addr.add_lit] at this
      exact ⟨b, off, rfl, World.block_lt_of_cell? _ _ (hc 0 h0), hc⟩
end
end Go.Proofs.Ytfgbpjajkmfkoaa
