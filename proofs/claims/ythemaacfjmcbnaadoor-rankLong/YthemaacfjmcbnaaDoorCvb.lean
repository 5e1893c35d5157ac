/-
  A string's bytes as a slice of the call's own ('[]byte(s)'). No program is named here.
-/
import Derived.Test.YthemaacfjmcbnaaDoorSlX
import Derived.Test.YthemaacfjmcbnaaDoorBase
import Derived.Lib.ConvBytes
namespace Go.Proofs.YthemaacfjmcbnaaDoor
open Go.RowKit

theorem conv_bytes {P : Program} (w : World) (src dst e : TypeId) (hs : P.underlying src = some .string) (hd : P.underlying dst = some (.slice e)) (he : P.underlying e = some (.int .u8)) {s : ByteArray} {n : Nat} {f : Nat → Int} (hS : St s n f) (hn : n ≤ maxLen) :
    ∃ c w', (convert src dst (.string s)).run P w = .ok (.slice (some ⟨w.heap.size, 0, none⟩) n c) w' ∧ Sl w' (some ⟨w.heap.size, 0, none⟩) n c f ∧ Below w.heap.size w w' ∧ w'.heap.size = w.heap.size + 1 := by
  have hz := hS.size
  refine ⟨grownCap w s.size 0 e, Lib.bytesWorld w e s, ?_, ?_, ?_, Lib.bytesWorld_size w e s⟩
  · rw [← hz]; exact Lib.run_convert_string_bytes w src dst e s hs hd he
  · refine ⟨by rw [← hz]; exact grownCap_ge w _ 0 e, grownCap_le_maxLen w _ 0 e (by rw [hz]; exact hn), hS.bd, fun h => absurd h (by simp), fun _ => ⟨_, _, rfl, by rw [Lib.bytesWorld_size]; omega, fun i hi => ?_⟩⟩
    rw [Nat.zero_add, Lib.bytesWorld_cell w e s i (by omega)]
    have := hS.get i (by omega)
    rw [← this]
    have hi' : i < s.data.size := by have : s.size = s.data.size := rfl; omega
    rw [List.getD_eq_getElem?_getD, Array.getElem?_toList, Array.getElem?_eq_getElem hi']
    rfl
  · refine ⟨rfl, rfl, rfl, by rw [Lib.bytesWorld_size]; omega, fun k hk => Lib.bytesWorld_at_old w e s k hk⟩
end Go.Proofs.YthemaacfjmcbnaaDoor
