/-
  Walks of ring, told of a ring that holds f: Push, Pop, Shift, At, All; Cut and Copy (things of one kind).
-/
import Derived.Test.YtgjeiikjpacocaaRgI6
import Derived.Deep.LoopGhost
namespace Go.Proofs.Ytgjeiikjpacocaa.RI
open Go.RowKit
set_option linter.unusedVariables false
section
variable {w : World} {B : Nat} {o : Option Nat} {room fr cnt : Nat} {f : Nat → Int}

theorem room_n (h : RnI w B o room fr cnt f) : Calls Try.prog 10 #[ptr B] w fun e w' => e = .returned (.int .i64 room) ∧ w' = w := by
  obtain ⟨n, first, g, h, _⟩ := h
  exact room_b h
theorem len_n (h : RnI w B o room fr cnt f) : Calls Try.prog 12 #[ptr B] w fun e w' => e = .returned (.int .i64 cnt) ∧ w' = w := by
  obtain ⟨n, first, g, h, _⟩ := h
  exact len_b h
theorem push_full (h : RnI w B o room fr room f) (x : Int) : Calls Try.prog 25 #[ptr B, .int .i32 x] w fun e w' => e = .returned (.bool false) ∧ w' = w := by
  obtain ⟨n, first, g, h, _⟩ := h
  exact push_no h x
theorem push_n (h : RnI w B o room fr cnt f) (hr : cnt < room) (hfr : fr ≤ 1099511627776) (x : Int) :
    Calls Try.prog 25 #[ptr B, .int .i32 x] w fun e w' => e = .returned (.bool true) ∧ ∃ o', RnI w' B o' room fr (cnt + 1) (sn f cnt x) ∧ Mut (own B o) w w' ∧ (o' = o ∨ ∃ D', o' = some D' ∧ w.heap.size ≤ D') := by
  obtain ⟨n, first, g, h, hv⟩ := h
  exact push_yes h hv hr hfr x
theorem pop_none (h : RnI w B o room fr 0 f) : Calls Try.prog 22 #[ptr B] w fun e w' => e = .returned (.tuple #[.int .i32 0, .bool false]) ∧ w' = w := by
  obtain ⟨n, first, g, h, _⟩ := h
  exact pop_no h
theorem pop_n (h : RnI w B o room fr cnt f) (c : Nat) (hc : cnt = c + 1) (hfr : fr ≤ 1099511627776) :
    Calls Try.prog 22 #[ptr B] w fun e w' => e = .returned (.tuple #[.int .i32 (f c), .bool true]) ∧ RnI w' B o room fr c f ∧ Mut (own B o) w w' := by
  obtain ⟨n, first, g, h, hv⟩ := h
  have hle := h.le
  obtain ⟨D, rfl⟩ := h.pos (by omega)
  have hf := (h.row D rfl).2.1
  refine (pop_yes h c hc hfr).mono ?_
  rintro e w' ⟨rfl, r, m⟩
  refine ⟨by rw [hv c (by omega)], ⟨n, first, _, r, fun i hi => ?_⟩, m⟩
  rw [upd_ne (pl_ne hf (by omega) (by omega) (by omega))]
  exact hv i (by omega)
theorem shift_none (h : RnI w B o room fr 0 f) : Calls Try.prog 23 #[ptr B] w fun e w' => e = .returned (.tuple #[.int .i32 0, .bool false]) ∧ w' = w := by
  obtain ⟨n, first, g, h, _⟩ := h
  exact shift_no h
theorem shift_n (h : RnI w B o room fr cnt f) (c : Nat) (hc : cnt = c + 1) (hfr : fr + 1 ≤ 1099511627776) :
    Calls Try.prog 23 #[ptr B] w fun e w' => e = .returned (.tuple #[.int .i32 (f 0), .bool true]) ∧ RnI w' B o room (fr + 1) c (fun i => f (i + 1)) ∧ Mut (own B o) w w' := by
  obtain ⟨n, first, g, h, hv⟩ := h
  have hle := h.le
  obtain ⟨D, rfl⟩ := h.pos (by omega)
  have hf := (h.row D rfl).2.1
  refine (shift_yes h c hc hfr).mono ?_
  rintro e w' ⟨rfl, r, m⟩
  refine ⟨by rw [hv 0 (by omega)], ⟨n, _, _, r, fun i hi => ?_⟩, m⟩
  rw [pl_shift, upd_ne (pl_ne hf (by omega) (by omega) (by omega))]
  exact hv (i + 1) (by omega)
theorem at_in (h : RnI w B o room fr cnt f) (i : Nat) (hi : i < cnt) (hfr : fr ≤ 1099511627776) (N : Int) (hN : N = fr + i) :
    Calls Try.prog 24 #[ptr B, .int .i64 N] w fun e w' => e = .returned (.tuple #[.int .i32 (f i), .bool true]) ∧ ∃ m, w' = w.drewN m := by
  obtain ⟨n, first, g, h, hv⟩ := h
  rw [← hv i hi]
  exact at_yes h i hi hfr N hN
theorem at_out (h : RnI w B o room fr cnt f) (hfr : fr ≤ 1099511627776) (N : Int) (hN : N < fr ∨ (fr : Int) + cnt ≤ N) :
    Calls Try.prog 24 #[ptr B, .int .i64 N] w fun e w' => e = .returned (.tuple #[.int .i32 0, .bool false]) ∧ ∃ m, w' = w.drewN m := by
  obtain ⟨n, first, g, h, hv⟩ := h
  refine (at_no h hfr N hN).mono ?_
  rintro e w' ⟨rfl, rfl⟩
  exact ⟨rfl, 0, rfl⟩
theorem all_n (h : RnI w B o room fr cnt f) : Calls Try.prog 15 #[ptr B] w fun e w' => ∃ a, e = .returned (.slice a cnt cnt) ∧ AllRow w cnt f a w' := by
  obtain ⟨n, first, g, h, hv⟩ := h
  exact all_b h hv
theorem from_n (h : RnI w B o room fr cnt f) : Calls Try.prog 13 #[ptr B] w fun e w' => e = .returned (.int .i64 fr) ∧ w' = w := by
  obtain ⟨n, first, g, h, _⟩ := h
  have c0 := h.c1
  clear h
  go_enter Try.func13, Try.ntmps13
  go_wp2
  go_ret
  exact ⟨rfl, rfl⟩

set_option maxHeartbeats 1600000 in
theorem copy_n (h : RnI w B o room fr cnt f) :
    Calls Try.prog 16 #[ptr B] w fun e w' => ∃ B' o', e = .returned (ptr B') ∧ RnI w' B' o' room fr cnt f ∧ Below w.heap.size w w' ∧ ∀ k, own B' o' k → w.heap.size ≤ k := by
  obtain ⟨n, first, g, h, hv⟩ := h
  have hle := h.le
  have hlr := h.lr
  have hmx := h.mx
  have P := hid (all_b h.drew hv)
  have HH := hid h
  have c0 := h.c0
  have c1 := h.c1
  have c2 := h.c2
  have hlt := h.lt
  clear h hv
  go_enter Try.func16, Try.ntmps16
  go_wp2_with fail
  go_region_held3 (fun w' => w'.cell? ⟨B, 0, none⟩ = some (.int .i64 room) ∧ w'.cell? ⟨B, 1, none⟩ = some (.int .i64 fr) ∧ w'.cell? ⟨B, 2, none⟩ = some (.int .i64 cnt)) (first | exact ⟨R1.out.c0, R1.out.c1, R1.out.c2⟩ | go_keep)
    (first | (go_at_call 15; refine P.out.mono ?_; rintro e w1 ⟨a, rfl, ha⟩; have R1 := hid (HH.out.drew.below ha.below); have HA := hid ha; clear ha))
  go_wp2
  go_ret
  have b1 : Below w.heap.size w w1 := (Below.refl _ _).drew.trans HA.out.below
  have hs : w.heap.size ≤ w1.heap.size := b1.size
  by_cases h0 : 0 < cnt
  · obtain ⟨rfl, hrow⟩ := HA.out.at' h0
    have hlt1 : w.heap.size < w1.heap.size := (Array.getElem?_eq_some_iff.1 hrow).1
    refine ⟨w1.heap.size, some w.heap.size, rfl, ⟨cnt, 0, f, ⟨heap_alloc_new w1 _, fun D hD => ?_, fun e => (by cases e), Nat.le_refl _, by omega, hmx⟩, fun i hi => ?_⟩, b1.alloc hs _, fun k hk => ?_⟩
    · cases hD
      exact ⟨by omega, h0, (Below.heap_alloc w1 _ _ hlt1).trans hrow⟩
    · rw [Nat.zero_add, Nat.mod_eq_of_lt hi]
    · rcases hk with rfl | hk
      · exact hs
      · cases hk; exact Nat.le_refl _
  · obtain rfl : cnt = 0 := by omega
    obtain rfl := HA.out.nil rfl
    refine ⟨w1.heap.size, none, rfl, ⟨0, 0, f, ⟨heap_alloc_new w1 _, fun D hD => (by cases hD), fun _ => ⟨rfl, rfl⟩, Nat.le_refl _, Nat.zero_le _, hmx⟩, fun i hi => by omega⟩, b1.alloc hs _, fun k hk => ?_⟩
    rcases hk with rfl | hk
    · exact hs
    · cases hk

set_option maxHeartbeats 1600000 in
theorem cut_out (h : RnI w B o room fr cnt f) (hfr : fr ≤ 1099511627776) (N : Int) (hN : N < fr ∨ (fr : Int) + cnt < N) :
    Calls Try.prog 26 #[ptr B, .int .i64 N] w fun e w' => e = .returned (.bool false) ∧ ∃ m, w' = w.drewN m := by
  have hcle := h.cle
  obtain ⟨n, first, g, h, _⟩ := h
  have c1 := h.c1
  have c2 := h.c2
  have hmx := h.mx
  clear h
  have e1 : IntKind.i64.wrap ((fr : Int) + cnt) = fr + cnt := i64_in (by omega) (by omega)
  by_cases t1 : N < fr
  · have d1 : decide (N < (fr : Int)) = true := decide_eq_true t1
    clear hN
    go_enter Try.func26, Try.ntmps26
    go_wp2
    go_quiet (fail)
    go_wp2
    go_ret
    exact ⟨rfl, _, rfl⟩
  · have d1 : decide (N < (fr : Int)) = false := decide_eq_false t1
    have t2 : (fr : Int) + cnt < N := by omega
    clear hN
    go_enter Try.func26, Try.ntmps26
    go_wp2
    go_quiet (fail)
    go_wp2
    go_ret
    exact ⟨rfl, _, rfl⟩

set_option maxHeartbeats 1600000 in
theorem cut_in (h : RnI w B o room fr cnt f) (hfr : fr ≤ 1099511627776) (k : Nat) (hk : k ≤ cnt) (N : Int) (hN : N = fr + k) :
    Calls Try.prog 26 #[ptr B, .int .i64 N] w fun e w' => e = .returned (.bool true) ∧ RnI w' B o room fr k f ∧ Mut (own B o) w w' := by
  have hcle := h.cle
  have hmx := h.mx
  have HH := hid h
  obtain ⟨n, first, g, hb, _⟩ := h
  have c1 := hb.c1
  have c2 := hb.c2
  clear hb
  have e1 : IntKind.i64.wrap ((fr : Int) + cnt) = fr + cnt := i64_in (by omega) (by omega)
  have t1 : ¬ N < fr := by omega
  have d1 : decide (N < (fr : Int)) = false := decide_eq_false t1
  have t2 : decide ((fr : Int) + cnt < N) = false := decide_eq_false (by omega)
  have HN := hid hN
  clear hN
  go_enter Try.func26, Try.ntmps26
  go_wp2
  go_quiet (fail)
  have HH2 := hid (HH.out.below (below_drewN (Below.refl _ _) nq))
  have M2 := hid (Mut.drewN (own B o) w nq)
  generalize w.drewN nq = w1 at *
  go_wp2_with fail
  clear c1 c2 e1 t1 d1 t2
  go_loopg [] (cnt - k) (fun q wr => ∃ r : Nat, q = r - k ∧ k ≤ r ∧ r ≤ cnt ∧ Hid (RnI wr B o room fr r f) ∧ Hid (Mut (own B o) w wr))
  case atStart => exact ⟨cnt, rfl, hk, Nat.le_refl _, HH2, M2⟩
  case round =>
    obtain ⟨r, rfl, hkr, hrc, R, M⟩ := hrel
    obtain ⟨n1, first1, g1, hb, _⟩ := R.out
    have c1 := hb.c1
    have c2 := hb.c2
    clear hb
    have e1 : IntKind.i64.wrap ((fr : Int) + r) = fr + r := i64_in (by omega) (by omega)
    by_cases hrk : k = r
    · have t1 : ¬ N < (fr : Int) + r := by have := HN.out; omega
      have d1 : decide (N < (fr : Int) + r) = false := decide_eq_false t1
      have HRK := hid hrk
      clear hrk
      go_wp2_with fail
      go_quiet (fail)
      go_wp2
      go_ret
      exact ⟨rfl, HRK.out ▸ R.out.below (below_drewN (Below.refl _ _) nq), M.out.trans (Mut.drewN (own B o) wr nq) (fun _ _ e => e)⟩
    · have t1 : N < (fr : Int) + r := by have := HN.out; omega
      obtain ⟨c, hc⟩ : ∃ c, r = c + 1 := ⟨r - 1, by omega⟩
      have HC := hid hc
      clear hc
      go_wp2_with fail
      go_quiet (fail)
      have R1 := hid (R.out.below (below_drewN (Below.refl _ _) nq))
      have M1 := hid (M.out.trans (Mut.drewN (own B o) wr nq) (fun _ _ e => e))
      clear c1 c2 e1 t1
      generalize wr.drewN nq = w2 at *
      go_wp2_with fail
      refine (pop_n R1.out c HC.out hfr).mono ?_
      rintro e w3 ⟨rfl, r3, m3⟩
      have R3 := hid r3
      have M3 := hid (M1.out.trans m3 (fun _ _ e => e))
      clear r3 m3
      go_wp2_with fail
      go_roundg (c - k)
      case measure => have := HC.out; omega
      case rel => exact ⟨c, rfl, by have := HC.out; omega, by have := HC.out; omega, R3, M3⟩
end
end Go.Proofs.Ytgjeiikjpacocaa.RI
