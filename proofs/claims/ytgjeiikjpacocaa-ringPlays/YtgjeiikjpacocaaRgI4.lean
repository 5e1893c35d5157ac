/-
  Walks of ring: All (things of one kind).
-/
import Derived.Test.YtgjeiikjpacocaaRgI3
import Derived.Test.YtgjeiikjpacocaaRgM
namespace Go.Proofs.Ytgjeiikjpacocaa.RI
open Go.RowKit
set_option linter.unusedVariables false
theorem infoI : (Try.prog.info? 21).map (fun i => (i.zero, i.size, i.bytes)) = some (some (.int .i32 0), 1, 4) := by kernel_rfl
section
variable {w : World} {B : Nat} {o : Option Nat} {D room fr cnt n first : Nat} {g f : Nat → Int}

set_option maxHeartbeats 1600000 in
theorem all_no (h : RbI w B o room fr 0 n first g) :
    Calls Try.prog 15 #[ptr B] w fun e w' => e = .returned (.slice none 0 0) ∧ w' = w := by
  have c2 := h.c2
  clear h
  go_enter Try.func15, Try.ntmps15
  go_wp2
  go_ret
  exact ⟨rfl, rfl⟩

/-- What All makes: a row of its own. -/
structure AllOut (w : World) (cnt : Nat) (f : Nat → Int) (w' : World) : Prop where
  row : w'.heap[w.heap.size]? = some (.cells (kv .i32 f cnt).toArray 21 (0, 0))
  below : Below w.heap.size w w'

set_option maxHeartbeats 1600000 in
theorem all_yes (h : RbI w B (some D) room fr cnt n first g) (h0 : 0 < cnt) (hv : ∀ i, i < cnt → g ((first + i) % n) = f i) :
    Calls Try.prog 15 #[ptr B] w fun e w' => e = .returned (.slice (some ⟨w.heap.size, 0, none⟩) cnt cnt) ∧ AllOut w cnt f w' := by
  obtain ⟨i0, hi0, hz0, hz1, hz2⟩ := info_parts infoI
  have hszE : (Try.prog.info? 21).map (·.size) = some 1 := by rw [hi0]; simp [hz1]
  have hle := h.le
  have hlr := h.lr
  have hmx := h.mx
  have hfn := (h.row D rfl).2.1
  have HH := hid h
  have HV := hid hv
  clear h hv
  obtain ⟨k, hk⟩ : ∃ k, k = Nat.min (n - first) cnt := ⟨_, rfl⟩
  have hkn : k ≤ cnt := by rw [hk]; exact Nat.min_le_right _ _
  have hkf : k ≤ n - first := by rw [hk]; exact Nat.min_le_left _ _
  have hkm : k = n - first ∨ k = cnt := by rw [hk]; rcases Nat.le_total (n - first) cnt with h | h; exact .inl (Nat.min_eq_left h); exact .inr (Nat.min_eq_right h)
  have t0 : ((cnt : Int) == 0) = false := by simp; omega
  have c2 := HH.out.c2
  go_enter Try.func15, Try.ntmps15
  go_wp2_with (first | (go_at_call 12; go_in) | (at_make; refine wpList_make_kv rfl _ _ 27 rfl .i32 21 i0 Try.underlying27 hi0 hz0 hz1 (by omega) cnt (by omega) rfl rfl ?_))
  intro w1 hm1
  have R1 := hid (HH.out.below hm1.out.below)
  have c3 := R1.out.c3
  have c4 := R1.out.c4
  have a0 : (first : Int) ≤ n := by omega
  have a1 : (0 : Int) ≤ first := by omega
  have a2 : ¬ n = first := by omega
  have HK := hid hk
  have HKM := hid hkm
  clear c2 hk hkm
  go_wp2_with fail
  go_region_held3 (fun w' => w'.cell? ⟨B, 3, none⟩ = some (.slice (some ⟨D, 0, none⟩) n n) ∧ w'.cell? ⟨B, 4, none⟩ = some (.int .i64 first)) (first | exact ⟨(HH.out.below hb2).c3, (HH.out.below hb2).c4⟩ | go_keep)
    ((refine step_copy_kv rfl _ _ 27 27 rfl .i32 21 Try.underlying27 hszE w.heap.size 0 cnt cnt cnt (some ⟨w.heap.size, 0, none⟩) D first n (n - first) (n - first) (some ⟨D, first, none⟩) rfl rfl (fun _ => 0) g hm1.out.row ((R1.out.drew.row D rfl).2.2) k HK.out (fun _ => rfl) (fun _ => rfl) (by omega) (fun _ => by omega) w.heap.size w hm1.out.below.drew (Nat.le_refl _) ?_; intro w2 hg2 hb2))
  have R2 := hid (HH.out.below hb2)
  have G2 := hid hg2
  have B2 := hid hb2
  clear hm1 R1 hg2 hb2 c3 c4 HK
  have c3 := R2.out.c3
  have b0 : (0 : Int) ≤ k := by omega
  have b1 : (k : Int) ≤ cnt := by omega
  have fin : ∀ w', (w'.heap[w.heap.size]? = some (.cells (kv .i32 (ovk (ovk (fun _ => 0) 0 (fun i => g (first + i)) k) k (fun i => g (0 + i)) (cnt - k)) cnt).toArray 21 (0, 0))) → Below w.heap.size w w' → AllOut w cnt f w' := fun w' h1 h2 => ⟨by
    rw [h1, kv_congr (g := f)]
    intro i hi
    rw [← HV.out i hi, mod_two (by omega)]
    have := HKM.out
    by_cases hik : i < k
    · rw [if_pos (by omega)]
      unfold ovk
      rw [if_neg (by omega), if_pos (by omega), Nat.sub_zero]
    · rw [if_neg (by omega)]
      unfold ovk
      rw [if_pos (by omega)]
      show g (0 + (i - k)) = g (first + i - n)
      congr 1
      omega, h2⟩
  have FIN := hid fin
  clear fin
  by_cases hkc : cnt = k
  · have b2 : cnt = k := hkc
    have HKC := hid hkc
    clear hkc
    go_wp2_with fail
    go_region_held3 (fun w' => w'.cell? ⟨B, 3, none⟩ = some (.slice (some ⟨D, 0, none⟩) n n)) (first | exact (HH.out.below hb3).c3 | go_keep)
      ((refine step_copy_kv rfl _ _ 27 27 rfl .i32 21 Try.underlying27 hszE w.heap.size k cnt _ _ _ D 0 n n n (some ⟨D, 0, none⟩) rfl rfl _ g G2.out ((R2.out.drew.row D rfl).2.2) (cnt - k) (show cnt - k = min n 0 by have := HKC.out; omega) (fun h => by have := HKC.out; omega) (fun _ => rfl) (by omega) (fun _ => by omega) w.heap.size w B2.out.drew (Nat.le_refl _) ?_; intro w3 hg3 hb3))
    go_wp2
    go_ret
    exact ⟨rfl, FIN.out _ hg3.out hb3⟩
  · have b2 : ¬ cnt = k := hkc
    have HKM := HKM
    go_wp2_with fail
    go_region_held3 (fun w' => w'.cell? ⟨B, 3, none⟩ = some (.slice (some ⟨D, 0, none⟩) n n)) (first | exact (HH.out.below hb3).c3 | go_keep)
      ((refine step_copy_kv rfl _ _ 27 27 rfl .i32 21 Try.underlying27 hszE w.heap.size k cnt (cnt - k) (cnt - k) (some ⟨w.heap.size, k, none⟩) D 0 n n n (some ⟨D, 0, none⟩) rfl rfl _ g G2.out ((R2.out.drew.row D rfl).2.2) (cnt - k) (Nat.min_eq_right (by omega)).symm (fun _ => rfl) (fun _ => rfl) (by omega) (fun _ => by omega) w.heap.size w B2.out.drew (Nat.le_refl _) ?_; intro w3 hg3 hb3))
    go_wp2
    go_ret
    exact ⟨rfl, FIN.out _ hg3.out hb3⟩
end
end Go.Proofs.Ytgjeiikjpacocaa.RI
