/-
  Walks of pair.join and slices.Clone.
-/
import Derived.Test.YtfgbpjajkmfkoaaPrMap
import Derived.Deep.RegionHeld3
namespace Go.Proofs.Ytfgbpjajkmfkoaa
open Go.RowKit Go.Maps
open Pr (it)
set_option linter.unusedVariables false

theorem Try.infoInt : (Try.prog.info? 3).map (fun i => (i.zero, i.size, i.bytes)) = some (some (.int .i64 0), 1, 8) := by kernel_rfl

theorem fz_row {w : World} {G : Nat} {cur : List Value} {t : TypeId} (h : w.heap[G]? = some (.cells cur.toArray t (0, 0))) (i : Nat) : w.frozen? ⟨G, i, none⟩ = false := by simp [World.frozen?, h]
set_option maxRecDepth 100000 in
set_option maxHeartbeats 3200000 in
theorem join_calls {w : World} {a : Option Addr} {n m c G N cap p : Nat} {xs : Pr.Row} {cur : List Value} (R : Ir w a n c xs) (hm : n = m + 1) (hp : p + 1 < n) (hG : w.heap[G]? = some (.cells cur.toArray 3 (0, 0))) (hcap : cur.length = cap) (hcm : cap ≤ maxLen)
    (hN : m ≤ N) (hNc : N ≤ cap) (hov : (∀ b off, a = some ⟨b, off, none⟩ → b < G) ∨ a = some ⟨G, 0, none⟩) (o : Int) :
    Calls Try.prog 29 #[.slice (some ⟨G, 0, none⟩) N cap, .slice a n c, .int .i64 (p : Int), .int .i64 o] w fun e w' => e = .returned (.slice (some ⟨G, 0, none⟩) m cap) ∧ (∃ cur' : Array Value, w'.heap[G]? = some (.cells cur' 3 (0, 0)) ∧ cur'.size = cap ∧ cur'.toList.take m = iv (Pr.jn xs p o)) ∧ Below G w w' := by
  obtain ⟨i0, hi0, hz0, hz1, hz2⟩ := info_parts Try.infoInt
  have hszE : (Try.prog.info? 3).map (·.size) = some 1 := by rw [hi0]; simp [hz1]
  have hl := R.len
  have hle := R.le
  have hmx := R.mx
  obtain ⟨b, off, rfl, hbl, hc⟩ := R.at' (by omega)
  have HC := hid hc
  have HG := hid hG
  have HL := hid (join_list (cur := cur) (xs := xs) (n := n) (m := m) (p := p) o hl hm hp (by omega))
  have HM := hid hm
  have l1 : (iv (xs.take p)).length = p := by rw [iv_length, List.length_take]; omega
  have l2 : (iv (xs.drop (p + 2))).length = n - (p + 2) := by rw [iv_length, List.length_drop, hl]
  have l3 : (splice cur 0 (iv (xs.take p))).length = cap := by rw [length_splice _ _ _ (by omega)]; exact hcap
  have l4 : (splice (splice cur 0 (iv (xs.take p))) (p + 1) (iv (xs.drop (p + 2)))).length = cap := by rw [length_splice _ _ _ (by omega), l3]
  have L1 := hid l1
  have L2 := hid l2
  have L3 := hid l3
  have L4 := hid l4
  -- what the second copy reads, behind the first
  have HR := hid (fun w1 (h1 : w1.heap[G]? = some (.cells (splice cur 0 (iv (xs.take p))).toArray 3 (0, 0))) (h2 : Below G w w1) (j : Nat) (v : Value) (hv : (iv (xs.drop (p + 2)))[j]? = some v) => show w1.cell? ⟨b, off + (p + 2) + j, none⟩ = some v from by
    obtain ⟨hj, rfl⟩ := iv_inv hv
    rw [List.length_drop] at hj
    rw [Pr.it_drop]
    have e0 := hc (p + 2 + j) (by omega)
    rw [← Nat.add_assoc] at e0
    rcases hov with h | h
    · have hlt := h b off rfl
      rw [h2.cell (p := ⟨b, off + (p + 2) + j, none⟩) hlt]
      exact e0
    · cases h
      rw [cell_row h1, splice_get _ _ _ (by omega), if_neg (by omega), if_neg (by omega)]
      rw [cell_row hG] at e0
      exact e0)
  have HCap := hid hcap
  clear hc hG l1 l2 l3 l4 hov hcap hm R
  obtain ⟨q1, hq1⟩ : ∃ q, q = p + 1 := ⟨_, rfl⟩
  obtain ⟨q2, hq2⟩ : ∃ q, q = p + 2 := ⟨_, rfl⟩
  unfold maxLen at hmx hcm
  have g1 : IntKind.i64.wrap ((p : Int) + 1) = q1 := by rw [i64_in (by omega) (by omega)]; omega
  have g2 : IntKind.i64.wrap ((p : Int) + 2) = q2 := by rw [i64_in (by omega) (by omega)]; omega
  have g3 : IntKind.i64.wrap ((n : Int) - 1) = m := by rw [i64_in (by omega) (by omega)]; have := HM.out; omega
  have k0 : (0 : Int) ≤ p := by omega
  have k1 : (p : Int) ≤ c := by omega
  have k2 : (0 : Int) ≤ q1 := by omega
  have k3 : (q1 : Int) ≤ N := by have := HM.out; omega
  have k4 : (q1 : Int) ≤ cap := by omega
  have k5 : (0 : Int) ≤ q2 := by omega
  have k6 : (q2 : Int) ≤ n := by omega
  have k7 : (q2 : Int) ≤ c := by omega
  have k8 : (N : Int) ≤ cap := by omega
  have k9 : (n : Int) ≤ c := by omega
  have j0 : (p : Int) < N := by have := HM.out; omega
  have j1 : (0 : Int) ≤ m := by omega
  have j2 : (m : Int) ≤ cap := by omega
  have hpn : p < N := by omega
  have HQ1 := hid hq1
  have HQ2 := hid hq2
  have HP := hid hp
  have HN := hid hN
  clear hq1 hq2 hp hN
  go_enter Try.func29, Try.ntmps29
  go_wp2_with (refine wpList_copy_splice rfl _ _ 39 39 rfl 3 Try.underlying39 hszE (some ⟨G, 0, none⟩) (some ⟨b, off, none⟩) N cap p c rfl rfl G 0 cur 3 HG.out (iv (xs.take p)) (by rw [L1.out]; exact (Nat.min_eq_left (Nat.le_of_lt hpn)).symm) (fun _ => ⟨rfl, _, rfl, fun j v hv => by
      obtain ⟨hj, rfl⟩ := iv_inv hv
      rw [List.length_take] at hj
      rw [Addr.add_lit, Pr.it_take (by omega)]
      exact HC.out j (by have := HP.out; omega)⟩) (by rw [L1.out, HCap.out]; omega) (iv_one _) G w (Below.refl _ _) (Nat.le_refl _) ?_; intro w1 hg1 hb1; have G1 := hid hg1.out; have B1 := hid hb1; clear hg1 hb1)
  have fin : ∀ w2, w2.heap[G]? = some (.cells (splice (splice cur 0 (iv (xs.take p))) q1 (iv (xs.drop q2))).toArray 3 (0, 0)) → Below G w w2 → ∀ w3, w3 = w2.setCell ⟨G, p, none⟩ (.int .i64 o) → (∃ cur' : Array Value, w3.heap[G]? = some (.cells cur' 3 (0, 0)) ∧ cur'.size = cap ∧ cur'.toList.take m = iv (Pr.jn xs p o)) ∧ Below G w w3 := by
    intro w2 h1 h2 w3 h3
    subst h3
    rw [HQ1.out, HQ2.out] at h1
    refine ⟨⟨_, set_row h1 _, ?_, ?_⟩, h2.setCell (p := ⟨G, p, none⟩) (Nat.le_refl _) _⟩
    · rw [List.size_toArray, List.length_set]; exact L4.out
    · exact HL.out
  have FIN := hid fin
  clear fin
  by_cases hk : n = q2
  · have LZ := hid (show (iv (xs.drop q2)).length = 0 by rw [HQ2.out, L2.out]; have := HQ2.out; omega)
    have LM := hid (show ∀ x y : Nat, (iv (xs.drop q2)).length = Nat.min (n - q2) y ∧ (iv (xs.drop q2)).length = Nat.min 0 y from fun x y => ⟨by rw [LZ.out, show n - q2 = 0 by omega]; exact (Nat.zero_min y).symm, by rw [LZ.out]; exact (Nat.zero_min y).symm⟩)
    have LF := hid (show q1 + (iv (xs.drop q2)).length ≤ (splice cur 0 (iv (xs.take p))).length by rw [LZ.out, L3.out]; omega)
    have HK := hid hk
    have z1 : (n : Int) ≤ q2 := by omega
    have z2 : n ≤ q2 := by omega
    clear hk
    by_cases h1 : c = q2
    · have h1s := h1.symm
      subst h1s
      by_cases h2 : cap = q1
      · have h2s := h2.symm
        subst h2s
        go_region_held3 (fun _ => True) (trivial) ((refine step_copy_splice rfl _ _ 39 39 rfl 3 Try.underlying39 hszE _ _ _ _ _ _ rfl rfl G q1 (splice cur 0 (iv (xs.take p))) 3 G1.out (iv (xs.drop q2)) (by first | exact (LM.out 0 _).1 | exact (LM.out 0 _).2) (fun h => absurd h (by rw [LZ.out]; decide)) LF.out (iv_one _) G w B1.out.drew (Nat.le_refl _) ?_; intro w2 hg2 hb2))
        obtain ⟨u, hu⟩ : ∃ u, w2.cell? ⟨G, p, none⟩ = some u := ⟨_, (cell_row hg2.out p).trans (List.getElem?_eq_getElem (show p < _ from by rw [HQ1.out, HQ2.out, L4.out]; omega))⟩
        have fz : w2.frozen? ⟨G, p, none⟩ = false := fz_row hg2.out p
        have C2 := hid (FIN.out w2 hg2.out hb2 _ rfl)
        clear hg2 hb2
        go_wp2_with fail
        go_ret
        exact ⟨rfl, C2.out.1, C2.out.2⟩
      · have h2' : ¬ cap = q1 := h2
        go_region_held3 (fun _ => True) (trivial) ((refine step_copy_splice rfl _ _ 39 39 rfl 3 Try.underlying39 hszE _ _ _ _ _ _ rfl rfl G q1 (splice cur 0 (iv (xs.take p))) 3 G1.out (iv (xs.drop q2)) (by first | exact (LM.out 0 _).1 | exact (LM.out 0 _).2) (fun h => absurd h (by rw [LZ.out]; decide)) LF.out (iv_one _) G w B1.out.drew (Nat.le_refl _) ?_; intro w2 hg2 hb2))
        obtain ⟨u, hu⟩ : ∃ u, w2.cell? ⟨G, p, none⟩ = some u := ⟨_, (cell_row hg2.out p).trans (List.getElem?_eq_getElem (show p < _ from by rw [HQ1.out, HQ2.out, L4.out]; omega))⟩
        have fz : w2.frozen? ⟨G, p, none⟩ = false := fz_row hg2.out p
        have C2 := hid (FIN.out w2 hg2.out hb2 _ rfl)
        clear hg2 hb2
        go_wp2_with fail
        go_ret
        exact ⟨rfl, C2.out.1, C2.out.2⟩
    · have h1' : ¬ c = q2 := h1
      by_cases h2 : cap = q1
      · have h2s := h2.symm
        subst h2s
        go_region_held3 (fun _ => True) (trivial) ((refine step_copy_splice rfl _ _ 39 39 rfl 3 Try.underlying39 hszE _ _ _ _ _ _ rfl rfl G q1 (splice cur 0 (iv (xs.take p))) 3 G1.out (iv (xs.drop q2)) (by first | exact (LM.out 0 _).1 | exact (LM.out 0 _).2) (fun h => absurd h (by rw [LZ.out]; decide)) LF.out (iv_one _) G w B1.out.drew (Nat.le_refl _) ?_; intro w2 hg2 hb2))
        obtain ⟨u, hu⟩ : ∃ u, w2.cell? ⟨G, p, none⟩ = some u := ⟨_, (cell_row hg2.out p).trans (List.getElem?_eq_getElem (show p < _ from by rw [HQ1.out, HQ2.out, L4.out]; omega))⟩
        have fz : w2.frozen? ⟨G, p, none⟩ = false := fz_row hg2.out p
        have C2 := hid (FIN.out w2 hg2.out hb2 _ rfl)
        clear hg2 hb2
        go_wp2_with fail
        go_ret
        exact ⟨rfl, C2.out.1, C2.out.2⟩
      · have h2' : ¬ cap = q1 := h2
        go_region_held3 (fun _ => True) (trivial) ((refine step_copy_splice rfl _ _ 39 39 rfl 3 Try.underlying39 hszE _ _ _ _ _ _ rfl rfl G q1 (splice cur 0 (iv (xs.take p))) 3 G1.out (iv (xs.drop q2)) (by first | exact (LM.out 0 _).1 | exact (LM.out 0 _).2) (fun h => absurd h (by rw [LZ.out]; decide)) LF.out (iv_one _) G w B1.out.drew (Nat.le_refl _) ?_; intro w2 hg2 hb2))
        obtain ⟨u, hu⟩ : ∃ u, w2.cell? ⟨G, p, none⟩ = some u := ⟨_, (cell_row hg2.out p).trans (List.getElem?_eq_getElem (show p < _ from by rw [HQ1.out, HQ2.out, L4.out]; omega))⟩
        have fz : w2.frozen? ⟨G, p, none⟩ = false := fz_row hg2.out p
        have C2 := hid (FIN.out w2 hg2.out hb2 _ rfl)
        clear hg2 hb2
        go_wp2_with fail
        go_ret
        exact ⟨rfl, C2.out.1, C2.out.2⟩
  · have h1 : ¬ c = q2 := by omega
    have h2 : ¬ cap = q1 := by have := HM.out; have := HN.out; have := HQ1.out; have := HQ2.out; omega
    have LM := hid (show (iv (xs.drop q2)).length = Nat.min (n - q2) (N - q1) by
      rw [HQ2.out, L2.out, ← HQ2.out]
      exact (Nat.min_eq_left (by have := HM.out; have := HQ1.out; have := HQ2.out; have := HN.out; omega)).symm)
    have LF := hid (show q1 + (iv (xs.drop q2)).length ≤ (splice cur 0 (iv (xs.take p))).length by rw [L3.out, HQ2.out, L2.out]; have := HM.out; have := HN.out; have := HQ1.out; have := HQ2.out; omega)
    have HR2 := hid (show ∀ w1 : World, w1.heap[G]? = some (.cells (splice cur 0 (iv (xs.take p))).toArray 3 (0, 0)) → Below G w w1 → ∀ (j : Nat) (v : Value), (iv (xs.drop q2))[j]? = some v → w1.cell? ⟨b, off + q2 + j, none⟩ = some v by rw [HQ2.out]; exact HR.out)
    have HK := hid hk
    clear hk
    go_region_held3 (fun _ => True) (trivial) ((refine step_copy_splice rfl _ _ 39 39 rfl 3 Try.underlying39 hszE (some ⟨G, q1, none⟩) (some ⟨b, off + q2, none⟩) (N - q1) (cap - q1) (n - q2) (c - q2) rfl rfl G q1 (splice cur 0 (iv (xs.take p))) 3 G1.out (iv (xs.drop q2)) LM.out (fun h => ⟨rfl, _, rfl, fun j v hv => by rw [Addr.add_lit]; exact HR2.out _ G1.out B1.out j v hv⟩) LF.out (iv_one _) G w B1.out.drew (Nat.le_refl _) ?_; intro w2 hg2 hb2))
    obtain ⟨u, hu⟩ : ∃ u, w2.cell? ⟨G, p, none⟩ = some u := ⟨_, (cell_row hg2.out p).trans (List.getElem?_eq_getElem (show p < _ from by rw [HQ1.out, HQ2.out, L4.out]; omega))⟩
    have fz : w2.frozen? ⟨G, p, none⟩ = false := fz_row hg2.out p
    have C2 := hid (FIN.out w2 hg2.out hb2 _ rfl)
    clear hg2 hb2
    go_wp2_with fail
    go_ret
    exact ⟨rfl, C2.out.1, C2.out.2⟩

theorem Try.eqNil (w : World) : (binOp .eql 39 (.slice none 0 0) (.slice none 0 0)).run Try.prog w = .ok (.bool true) w := by kernel_rfl
theorem Try.eqSome (ad : Addr) (n c : Nat) (w : World) : (binOp .eql 39 (.slice (some ad) n c) (.slice none 0 0)).run Try.prog w = .ok (.bool false) w := by kernel_rfl
set_option maxRecDepth 100000 in
set_option maxHeartbeats 3200000 in
theorem clone_calls {w : World} {a : Option Addr} {n c : Nat} {xs : Pr.Row} (R : Ir w a n c xs) (hn : n ≤ 1000000) :
    Calls Try.prog 30 #[.slice a n c] w fun e w' => (∃ v, e = .returned v ∧ w'.ownsRow w.heap.size 3 1 v n (iv xs)) ∧ Below w.heap.size w w' := by
  obtain ⟨i0, hi, hz0, hz1, hz2⟩ := info_parts Try.infoInt
  have hl := R.len
  have en := Try.eqNil
  cases a with
  | none =>
    obtain ⟨rfl, rfl⟩ := R.nil rfl
    have hx : xs = [] := List.eq_nil_of_length_eq_zero hl
    subst hx
    clear R
    go_enter Try.func30, Try.ntmps30
    go_wp2_with fail
    go_ret
    exact ⟨⟨_, rfl, World.ownsRow_nil _ _ _ _⟩, Below.refl _ _⟩
  | some ad =>
    have B1 := hid ((Below.refl w.heap.size w).alloc (Nat.le_refl _) (.cells #[] 3))
    have R1 := hid (R.below B1.out)
    have es := Try.eqSome ad n c
    clear R en
    go_enter Try.func30, Try.ntmps30
    go_wp2_with (at_builtin; refine wpList_append_src rfl _ _ 39 rfl w.heap.size 3 i0 (.int .i64 0) 1 8 Try.underlying39 hi hz0 hz1 hz2 rfl (by decide) _ 0 _ rfl (own_empty w.heap.size rfl (Nat.le_refl _)) (some ad) n c (iv xs) rfl R1.out.src (by unfold maxLen; omega) (by omega) (by simp) ?_; intro v3 w3 own gr loc; have O3 := hid own; have G3 := hid gr; clear own gr loc)
    go_ret
    exact ⟨⟨_, rfl, by have := O3.out; rwa [Nat.zero_add, List.nil_append] at this⟩, B1.out.grown G3.out (by simp) (fun k hk => Nat.le_of_eq (Option.some.inj (show some w.heap.size = some k from hk)))⟩
end Go.Proofs.Ytfgbpjajkmfkoaa
