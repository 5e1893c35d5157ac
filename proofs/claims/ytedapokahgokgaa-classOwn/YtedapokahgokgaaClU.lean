/-
  The usual table of package class, and the walk that makes it.
-/
import Derived.Test.YtedapokahgokgaaChecked
import Derived.Test.YtedapokahgokgaaClMath
import Derived.Test.YtedapokahgokgaaRs
import Derived.Great.BuildSlice
namespace Go.Proofs.Ytedapokahgokgaa
open Go.RowKit
set_option linter.unusedVariables false

/-- The usual table: from, to, class. -/
def uTab : List (Int × Int × Int) := [(9, 9, 3), (10, 10, 4), (11, 12, 3), (13, 13, 4), (32, 32, 3), (48, 57, 2), (65, 90, 1), (97, 122, 1), (133, 133, 3), (160, 160, 3), (170, 170, 1), (178, 179, 2), (181, 181, 1), (185, 185, 2), (186, 186, 1), (188, 190, 2), (192, 214, 1), (216, 246, 1), (248, 705, 1), (880, 883, 1), (886, 887, 1), (891, 893, 1), (895, 895, 1), (902, 902, 1), (904, 1013, 1), (1015, 1153, 1), (1162, 1327, 1), (1329, 1366, 1), (1377, 1415, 1), (1488, 1514, 1), (1568, 1610, 1), (1632, 1641, 2), (2308, 2361, 1), (2406, 2415, 2), (3585, 3632, 1), (4256, 4351, 1), (4352, 4680, 1), (5760, 5760, 3), (7680, 8124, 1), (8192, 8202, 3), (8232, 8233, 3), (8239, 8239, 3), (8287, 8287, 3), (8544, 8584, 2), (12288, 12288, 3), (12353, 12438, 1), (12449, 12538, 1), (19968, 40959, 1), (44032, 55203, 1), (65296, 65305, 2), (131072, 173791, 1)]
def UL (i : Nat) : Int := (uTab.getD i (0, 0, 0)).1
def UH (i : Nat) : Int := (uTab.getD i (0, 0, 0)).2.1
def UC (i : Nat) : Int := (uTab.getD i (0, 0, 0)).2.2
/-- Its cells. -/
def uCells : Array Value := (uTab.flatMap fun x => [.int .i64 x.1, .int .i64 x.2.1, .int .i64 x.2.2]).toArray

theorem Try.infoRange : ∃ i, Try.prog.info? 31 = some i ∧ i.zero = some (.agg #[.int .i64 0, .int .i64 0, .int .i64 0]) ∧ i.size = 3 := by
  have h : (Try.prog.info? 31).map (fun i => (i.zero, i.size)) = some (some (.agg #[.int .i64 0, .int .i64 0, .int .i64 0]), 3) := by kernel_rfl
  obtain ⟨i, hi, he⟩ := Option.map_eq_some_iff.1 h
  simp only [Prod.mk.injEq] at he
  exact ⟨i, hi, he.1, he.2⟩

set_option maxHeartbeats 2000000 in
set_option maxRecDepth 10000 in
theorem usual_calls (w : World) :
    Calls Try.prog 12 #[] w fun e w' => e = .returned (.slice (some ⟨w.heap.size, 0, none⟩) 51 51) ∧ w' = w.alloc (.cells uCells 31) := by
  go_enter Try.func12, Try.ntmps12
  obtain ⟨ie, hie, hz, hsz⟩ := Try.infoRange
  have HIE := hid hie
  clear hie
  go_wp2_with (refine wpList_buildSlice rfl 22 31 51 _ rfl uCells ie _ Try.underlying22 HIE.out hz (by rw [hsz]; omega) (by rw [hsz]; omega) (by rw [hsz]; kernel_rfl) ?_)
  go_ret
  exact ⟨rfl, rfl⟩
end Go.Proofs.Ytedapokahgokgaa
