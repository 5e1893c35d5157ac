/-
  Walks of ring: Push (things of one kind).
-/
import Derived.Test.YtgjeiikjpacocaaRgI5
namespace Go.Proofs.Ytgjeiikjpacocaa.RI
open Go.RowKit
set_option linter.unusedVariables false
section
variable {w : World} {B : Nat} {o : Option Nat} {D room fr cnt n first : Nat} {g f : Nat → Int}

set_option maxHeartbeats 1600000 in
theorem push_no (h : RbI w B o room fr room n first g) (x : Int) :
    Calls Try.prog 25 #[ptr B, .int .i32 x] w fun e w' => e = .returned (.bool false) ∧ w' = w := by
  have c2 := h.c2
  have c0 := h.c0
  clear h
  go_enter Try.func25, Try.ntmps25
  go_wp2
  go_ret
  exact ⟨rfl, rfl⟩

set_option maxHeartbeats 3200000 in
theorem push_yes (h : RbI w B o room fr cnt n first g) (hv : ∀ i, i < cnt → g ((first + i) % n) = f i) (hr : cnt < room) (hfr : fr ≤ 1099511627776) (x : Int) :
    Calls Try.prog 25 #[ptr B, .int .i32 x] w fun e w' => e = .returned (.bool true) ∧ ∃ o', RnI w' B o' room fr (cnt + 1) (sn f cnt x) ∧ Mut (own B o) w w' ∧ (o' = o ∨ ∃ D', o' = some D' ∧ w.heap.size ≤ D') := by
  have hmx := h.mx
  have hle := h.le
  have hlr := h.lr
  have t0 : ((cnt : Int) == room) = false := by simp; omega
  obtain ⟨z, hz⟩ : ∃ z : Int, z = (cnt + 1 : Nat) := ⟨_, rfl⟩
  obtain ⟨N, hN⟩ : ∃ N : Int, N = fr + cnt := ⟨_, rfl⟩
  have e1 : IntKind.i64.wrap ((cnt : Int) + 1) = z := by rw [i64_in (by omega) (by omega)]; omega
  have e2 : IntKind.i64.wrap ((fr : Int) + z) = fr + z := i64_in (by omega) (by omega)
  have e3 : IntKind.i64.wrap ((fr : Int) + z - 1) = N := by rw [i64_in (by omega) (by omega)]; omega
  have HZ := hid hz
  have HN := hid hN
  have HH := hid h
  have HV := hid hv
  have c0 := h.c0
  have c2 := h.c2
  have c3 := h.c3
  have hlt := h.lt
  clear hz hN h hv
  go_enter Try.func25, Try.ntmps25
  go_wp2
  rcases Classical.em (cnt = n) with hg | hg
  case' inl =>
    have t1 : ((cnt : Int) == n) = true := by simp; omega
    go_quiet (fail)
    subst hg
    have R1 := hid (HH.out.drewN nq)
    go_wp2_with fail
    refine (grow_b R1.out HV.out hr).mono ?_
    rintro e w1 ⟨rfl, D1, n1, g1, r1, v1, hn1, hD1, m1⟩
    have R := hid r1
    have V := hid (show ∀ i, i < cnt → g1 ((0 + i) % n1) = f i from fun i hi => by rw [Nat.zero_add, Nat.mod_eq_of_lt (by omega)]; exact v1 i hi)
    have M := hid ((Mut.drewN (own B o) w nq).trans m1 (fun i _ e => e.elim .inl (fun e => by cases e)))
    have OO := hid (show some D1 = o ∨ ∃ D', some D1 = some D' ∧ w.heap.size ≤ D' from .inr ⟨D1, rfl, hD1⟩)
    have hf1 : 0 < n1 := by omega
    obtain ⟨first1, hF⟩ : ∃ first1, first1 = 0 := ⟨_, rfl⟩
    rw [← hF] at R V hf1
    clear r1 v1 m1 hD1 R1 hF
  case' inr =>
    have t1 : ((cnt : Int) == n) = false := by simp; omega
    go_quiet (fail)
    obtain ⟨D1, hD1⟩ := HH.out.pos (by omega)
    have R := hid (show RbI (w.drewN nq) B (some D1) room fr cnt n first g from hD1 ▸ HH.out.drewN nq)
    have V := hid HV.out
    have M := hid (Mut.drewN (own B o) w nq)
    have OO := hid (show some D1 = o ∨ ∃ D', some D1 = some D' ∧ w.heap.size ≤ D' from .inl hD1.symm)
    have hn1 : cnt < n := by omega
    have hf1 : first < n := (HH.out.row D1 hD1).2.1
    clear hD1
    generalize w.drewN nq = w1 at *
    obtain ⟨n1, hn⟩ : ∃ n1, n1 = n := ⟨_, rfl⟩
    obtain ⟨first1, hF⟩ : ∃ first1, first1 = first := ⟨_, rfl⟩
    obtain ⟨g1, hG⟩ : ∃ g1, g1 = g := ⟨_, rfl⟩
    rw [← hn] at R V hf1 hn1
    rw [← hF] at R V hf1
    rw [← hG] at R V
    clear hn hF hG
  all_goals
    clear t0 t1 c0 c2 c3
    have c2 := R.out.c2
    have f2 := R.out.fz 2
    go_wp2_with fail
    have R2 := hid (R.out.setCount (cnt + 1) z HZ.out (by omega))
    have M2 := hid (M.out.trans (Mut.set w1 B 2 (.int .i64 z) (S := own B _) (.inl rfl)) (fun _ _ e => e))
    clear c2 f2
    generalize w1.setCell ⟨B, 2, none⟩ (.int .i64 z) = w2 at *
    have hn0 : 0 < n1 := by omega
    have P := hid (place_b R2.out.drew cnt (by omega) hn0 hfr N HN.out)
    have hp := pl_lt (first := first1) (i := cnt) hn0
    have c1 := R2.out.c1
    have c2 : w2.cell? ⟨B, 2, none⟩ = some (.int .i64 z) := by rw [HZ.out]; exact R2.out.c2
    have c3 : w2.cell? ⟨B, 3, none⟩ = some (.slice (some ⟨D1, 0, none⟩) n1 n1) := R2.out.c3
    have hne : D1 ≠ B := (R2.out.row D1 rfl).1
    obtain ⟨p, hpp⟩ : ∃ p, p = (first1 + cnt) % n1 := ⟨_, rfl⟩
    rw [← hpp] at P hp
    have cd := R2.out.cd p hp
    have fzd := R2.out.fzd p
    have hp1 : (p : Int) < n1 := by omega
    have hp0 : (0 : Int) ≤ p := by omega
    have HP := hid hpp
    clear hpp
    go_region_held3 (fun w' => w'.cell? ⟨B, 1, none⟩ = some (.int .i64 fr) ∧ w'.cell? ⟨B, 2, none⟩ = some (.int .i64 z) ∧ w'.cell? ⟨B, 3, none⟩ = some (.slice (some ⟨D1, 0, none⟩) n1 n1)) (go_keep)
      (first | (go_at_call 36; refine P.out.mono ?_; rintro e w3 ⟨rfl, m, rfl⟩))
    go_wp2
    go_ret
    refine ⟨rfl, some D1, ⟨n1, first1, _, (R2.out.drewN (1 + m)).put p x, fun i hi => ?_⟩, ?_, OO.out⟩
    · by_cases hic : i = cnt
      · subst hic
        rw [← HP.out, upd_eq, sn_eq]
      · rw [HP.out, upd_ne (pl_ne hf1 (by omega) (by omega) hic), sn_lt (by omega)]
        exact V.out i (by omega)
    · exact (M2.out.trans (Mut.drewN (own B _) w2 (1 + m)) (fun _ _ e => e)).trans (Mut.set (w2.drewN (1 + m)) D1 p (.int .i32 x) (S := fun k => k = D1) rfl) (fun i hi e => by
        subst e
        rcases OO.out with h | ⟨D', h, hD⟩
        · exact .inr h.symm
        · cases h; omega)
end
end Go.Proofs.Ytgjeiikjpacocaa.RI
