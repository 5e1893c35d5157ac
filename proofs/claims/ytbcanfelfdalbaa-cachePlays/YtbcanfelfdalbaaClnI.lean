/-
  Walk of slices.Clone at numbers (split off PrJoin).
-/
import Derived.Test.YtbcanfelfdalbaaChecked
import Derived.Test.YtbcanfelfdalbaaLotG
import Derived.WalkKit
namespace Go.Proofs.Ytbcanfelfdalbaa
open Go.RowKit
set_option linter.unusedVariables false
theorem Try.infoInt : (Try.prog.info? 3).map (fun i => (i.zero, i.size, i.bytes)) = some (some (.int .i64 0), 1, 8) := by kernel_rfl
theorem Try.eqNil (w : World) : (binOp .eql 29 (.slice none 0 0) (.slice none 0 0)).run Try.prog w = .ok (.bool true) w := by kernel_rfl
theorem Try.eqSome (ad : Addr) (n c : Nat) (w : World) : (binOp .eql 29 (.slice (some ad) n c) (.slice none 0 0)).run Try.prog w = .ok (.bool false) w := by kernel_rfl
set_option maxRecDepth 100000 in
set_option maxHeartbeats 3200000 in
theorem clone_calls {w : World} {a : Option Addr} {n c : Nat} {xs : Pr.Row} (R : Ir w a n c xs) (hn : n ≤ 1000000) :
    Calls Try.prog 22 #[.slice a n c] w fun e w' => (∃ v, e = .returned v ∧ w'.ownsRow w.heap.size 3 1 v n (iv xs)) ∧ Below w.heap.size w w' := by
  obtain ⟨i0, hi, hz0, hz1, hz2⟩ := info_parts Try.infoInt
  have hl := R.len
  have en := Try.eqNil
  cases a with
  | none =>
    obtain ⟨rfl, rfl⟩ := R.nil rfl
    have hx : xs = [] := List.eq_nil_of_length_eq_zero hl
    subst hx
    clear R
    go_enter Try.func22, Try.ntmps22
    go_wp2_with fail
    go_ret
    exact ⟨⟨_, rfl, World.ownsRow_nil _ _ _ _⟩, Below.refl _ _⟩
  | some ad =>
    have B1 := hid ((Below.refl w.heap.size w).alloc (Nat.le_refl _) (.cells #[] 3))
    have R1 := hid (R.below B1.out)
    have es := Try.eqSome ad n c
    clear R en
    go_enter Try.func22, Try.ntmps22
    go_wp2_with (at_builtin; refine wpList_append_src rfl _ _ 29 rfl w.heap.size 3 i0 (.int .i64 0) 1 8 Try.underlying29 hi hz0 hz1 hz2 rfl (by decide) _ 0 _ rfl (own_empty w.heap.size rfl (Nat.le_refl _)) (some ad) n c (iv xs) rfl R1.out.src (by unfold maxLen; omega) (by omega) (by simp) ?_; intro v3 w3 own gr loc; have O3 := hid own; have G3 := hid gr; clear own gr loc)
    go_ret
    exact ⟨⟨_, rfl, by have := O3.out; rwa [Nat.zero_add, List.nil_append] at this⟩, B1.out.grown G3.out (by simp) (fun k hk => Nat.le_of_eq (Option.some.inj (show some w.heap.size = some k from hk)))⟩
end Go.Proofs.Ytbcanfelfdalbaa
