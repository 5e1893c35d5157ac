/-
  Walks of the reference's row and Usual.
-/
import Derived.Test.YtedapokahgokgaaChecked
import Derived.Test.YtedapokahgokgaaClMath
import Derived.Test.YtedapokahgokgaaRs
import Derived.Test.YtedapokahgokgaaOwn
import Derived.Deep.LoopGhost
import Derived.Deep.RegionHeld3
import Derived.WalkSmall
namespace Go.Proofs.Ytedapokahgokgaa
open Go.RowKit
set_option linter.unusedVariables false

/-- The cells of m ranges of class c, by their ends. -/
def rvals (c : Int) (f : Nat → Int) (m : Nat) : List Value := (List.range m).flatMap fun i => [.int .i64 (f (2 * i)), .int .i64 (f (2 * i + 1)), .int .i64 c]
theorem rvals_zero (c : Int) (f : Nat → Int) : rvals c f 0 = [] := rfl
theorem rvals_snoc (c : Int) (f : Nat → Int) (m : Nat) : rvals c f m ++ [.int .i64 (f (2 * m)), .int .i64 (f (2 * m + 1)), .int .i64 c] = rvals c f (m + 1) := by
  unfold rvals; rw [List.range_succ, List.flatMap_append]; simp
theorem Try.infoR : (Try.prog.info? 31).map (fun i => (i.zero, i.size, i.bytes)) = some (some (.agg #[.int .i64 0, .int .i64 0, .int .i64 0]), 3, 24) := by kernel_rfl

set_option maxRecDepth 100000 in
set_option maxHeartbeats 3200000 in
theorem row_calls (c : Int) (bl nl cl : Nat) (f : Nat → Int) (w : World) (hle : nl ≤ cl) (hn : nl ≤ 1000) (hlt : bl < w.heap.size) (hc : ∀ i, i < nl → w.cell? ⟨bl, i, none⟩ = some (.int .i64 (f i))) :
    Calls Try.prog 15 #[.int .i64 c, .slice (some ⟨bl, 0, none⟩) nl cl] w fun e w' => ∃ v, e = .returned v ∧ w'.ownsRow w.heap.size 31 3 v (nl / 2) (rvals c f (nl / 2)) ∧ Below w.heap.size w w' := by
  obtain ⟨i0, hi0, hz0, hz1, hz2⟩ := info_parts Try.infoR
  have HC := hid hc
  clear hc
  go_enter Try.func15, Try.ntmps15
  go_wp2_with fail
  go_loopg [5, 6] nl (fun k v iv wr => ∃ i j : Nat, k = nl - i ∧ Hid (i = 2 * j) ∧ i ≤ nl ∧ iv = .int .i64 i ∧ Hid (wr.ownsRow w.heap.size 31 3 v j (rvals c f j)) ∧ Hid (Below w.heap.size w wr))
  case atStart => exact ⟨0, 0, by omega, hid rfl, by omega, rfl, hid (World.ownsRow_lit w #[] 0 (Nat.le_refl _) (by decide) rfl), hid ((Below.refl _ _).alloc (Nat.le_refl _) _)⟩
  case round =>
    obtain ⟨i, j, rfl, hij, hin, rfl, HO, HB⟩ := hrel
    by_cases hlt2 : i + 1 < nl
    · have h1 : (i : Int) + 1 < nl := by omega
      have h2 : (i : Int) < nl := by omega
      have h3 : (0 : Int) ≤ i := by omega
      have h4 : (0 : Int) ≤ (i : Int) + 1 := by omega
      have q0 : wr.cell? ⟨bl, i, none⟩ = some (.int .i64 (f i)) := by rw [HB.out.cell (p := ⟨bl, i, none⟩) hlt]; exact HC.out i (by omega)
      have q1 : wr.cell? ⟨bl, i + 1, none⟩ = some (.int .i64 (f (i + 1))) := by rw [HB.out.cell (p := ⟨bl, i + 1, none⟩) hlt]; exact HC.out (i + 1) (by omega)
      have hbw : bl < wr.heap.size := Nat.lt_of_lt_of_le hlt HB.out.size
      have hne : u5.ownBlock ≠ some bl := fun e => by have := (HO.out.lt bl e).1; omega
      have hsz := HB.out.size
      have hwr : IntKind.i64.wrap ((i : Int) + 1) = (i : Int) + 1 := i64_in (by omega) (by omega)
      go_wp2_with fail
      go_region_held3 (fun w' => w'.cell? ⟨bl, i, none⟩ = some (.int .i64 (f i)) ∧ w'.cell? ⟨bl, i + 1, none⟩ = some (.int .i64 (f (i + 1))))
        (first
          | go_keep
          | (go_split_ands
             refine ⟨?_, ?_⟩
             · (rw [hgrow.cell_far _ (by simp; omega) (Ne.symm hne)]; assumption)
             · (rw [hgrow.cell_far _ (by simp; omega) (Ne.symm hne)]; assumption)))
        ((refine step_append_lies _ (by rfl) _ _ _ (by rfl) w.heap.size 31 i0 _ 3 24 Try.underlying22 hi0 hz0 hz1 hz2 rfl (by omega) u5 j (rvals c f j) (by rfl) ((HO.out.alloc _).drew)
            ⟨wr.heap.size, 0, none⟩ 1 1 [.int .i64 (f i), .int .i64 (f (i + 1)), .int .i64 c] (by rfl) (by rfl) (World.news_of_block (cs := #[.int .i64 (f i), .int .i64 (f (i + 1)), .int .i64 c]) (t := 31) (fr := (0, 0)) (heap_alloc_new wr _)) (by simp [Value.oneCell'])
            (by omega) (by unfold maxLen; have := hij.out; omega) (by have := hij.out; omega) (by simp; omega) (wr.heap.size + 1) (by simp) ?_; intro gg cap w1 hown1 hgrow hat hlt))
      go_wp2_with fail
      go_roundg (nl - (i + 2))
      case measure => omega
      case rel =>
        obtain rfl := hij.out
        refine ⟨2 * j + 2, j + 1, rfl, hid (by omega), by omega, by go_num, hid ?_, hid ?_⟩
        · rw [rvals_snoc] at hown1; exact hown1
        · exact (HB.out.alloc hsz _).drew.grown hgrow (by simp; omega) (fun k hk => (HO.out.lt k hk).1)
    · have h1 : ¬ (i : Int) + 1 < nl := by omega
      have E := hid (show nl / 2 = j by have := hij.out; omega)
      go_wp2_with fail
      go_ret
      exact ⟨_, rfl, by rw [E.out]; exact HO.out, HB.out⟩
end Go.Proofs.Ytedapokahgokgaa
