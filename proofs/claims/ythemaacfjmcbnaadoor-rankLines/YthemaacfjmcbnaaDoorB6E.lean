/-
  The walk of base64.Encode.
-/
import Derived.Test.YthemaacfjmcbnaaDoorSlX
import Derived.Test.YthemaacfjmcbnaaDoorB6W4
import Derived.Test.YthemaacfjmcbnaaDoorCpy
import Derived.Test.YthemaacfjmcbnaaDoorOwn
import Derived.Test.YthemaacfjmcbnaaDoorB6I
import Derived.Deep.RegionHeld3
namespace Go.Proofs.YthemaacfjmcbnaaDoor
open Go.RowKit
set_option linter.unusedVariables false




theorem B6.one_min {j n : Nat} {a b c : Int} (hj : j < 4) : B6.one j (min n 3) a b c = B6.one j n a b c := by
  unfold B6.one
  by_cases h : j ≤ n
  · rw [if_pos (by omega), if_pos h]
  · rw [if_neg (by omega), if_neg h]


set_option maxRecDepth 100000 in
set_option maxHeartbeats 3200000 in
theorem b6encode_calls (ao : Option Addr) (n cap : Nat) (f : Nat → Int) (w : World) (hn : n ≤ 100000) (hsl : Sl w ao n cap f) :
    Calls Tryd.prog 27 #[.slice ao n cap] w fun e w' => e = .returned (.string (str (B6.encF f n) (B6.encN n))) ∧ Below w.heap.size w w' := by
  obtain ⟨i0, hi0, hz0, hz1, hz2⟩ := info_parts Tryd.infoB
  have hszE : (Tryd.prog.info? 5).map (·.size) = some 1 := by rw [hi0]; simp [hz1]
  have SL := hid hsl
  clear hsl
  go_enter Tryd.func27, Tryd.ntmps27
  go_wp2_with fail
  go_loopg [3, 4] n (fun r v iv wr => ∃ p k : Nat, Hid (p = 3 * k) ∧ r = n - p ∧ p ≤ n + 2 ∧ iv = .int .i64 p ∧ Hid (wr.ownsRow w.heap.size 5 1 v (4 * k) (vals (B6.encF f n) (4 * k))) ∧ Hid (Below w.heap.size w wr))
  case atStart => exact ⟨0, 0, hid rfl, by omega, by omega, rfl, hid (World.ownsRow_nil _ _ _ _), hid (Below.refl _ _)⟩
  case round =>
    obtain ⟨p, k, hp, rfl, hpn, rfl, HO, HB⟩ := hrel
    by_cases hlt : p < n
    · have h1 : (p : Int) < n := by omega
      have h0 : (0 : Int) ≤ p := by omega
      obtain ⟨b, off, rfl, hbw, hcell⟩ := SL.out.at' (by omega)
      have hcap := SL.out.le
      have hmx := SL.out.mx
      unfold maxLen at hmx
      have hle : (p : Int) ≤ n := by omega
      have hlc : (p : Int) ≤ cap := by omega
      have hnc : (n : Int) ≤ cap := by omega
      have hne : ¬ cap = p := by omega
      have S1 := hid ((SL.out.cut p hlt).below HB.out)
      have B1 := hid ((Below.refl wr.heap.size wr).alloc (Nat.le_refl _) (.cells #[.int .u8 0, .int .u8 0, .int .u8 0] 71))
      clear hcell
      go_wp2_with fail
      go_region_held3 (fun _ => True) (trivial) ((refine step_copy_sl rfl _ _ 26 26 rfl 5 Tryd.underlying26 hszE wr.heap.size 3 3 (some ⟨b, off + p, none⟩) (n - p) (cap - p) rfl rfl (fun _ => 0) 71 (heap_alloc_new wr _) _ ((S1.out.below B1.out).drew) wr.heap.size wr B1.out.drew (Nat.le_refl _) ?_; intro w2 hg2 hb2))
      have hz : ∀ j, ovl (fun j => f (p + j)) (n - p) (fun _ => 0) j = B6.z f n (p + j) := fun j => by
        unfold ovl B6.z
        by_cases hj : p + j < n
        · rw [if_pos (by omega), if_pos hj]
        · rw [if_neg (by omega), if_neg hj]
      have q0 := cell_of_row hg2.out 0 (by omega)
      have q1 := cell_of_row hg2.out 1 (by omega)
      have q2 := cell_of_row hg2.out 2 (by omega)
      rw [hz] at q0 q1 q2
      clear hz
      have B2 := hid (HB.out.trans (hb2.mono HB.out.size))
      have O2 := hid (own_below HO.out hb2)
      have zb := B6.z_bd (n := n) SL.out.bd
      obtain ⟨x0, hx0⟩ : ∃ x, x = B6.z f n (p + 0) := ⟨_, rfl⟩
      obtain ⟨x1, hx1⟩ : ∃ x, x = B6.z f n (p + 1) := ⟨_, rfl⟩
      obtain ⟨x2, hx2⟩ : ∃ x, x = B6.z f n (p + 2) := ⟨_, rfl⟩
      have b0 := zb (p + 0)
      have b1 := zb (p + 1)
      have b2 := zb (p + 2)
      rw [← hx0] at q0 b0
      rw [← hx1] at q1 b1
      rw [← hx2] at q2 b2
      have HX := hid (And.intro hx0 (And.intro hx1 hx2))
      obtain ⟨m, hm⟩ : ∃ m, m = min (n - p) 3 := ⟨_, rfl⟩
      rw [← hm]
      have HM := hid hm
      have hm1 : 1 ≤ m := by omega
      have hm3 : m ≤ 3 := by omega
      clear hm hx0 hx1 hx2 zb hg2 HO S1 B1
      go_wp2_with fail
      refine (signsOf_calls x0 x1 x2 m b0 b1 b2 hm1 hm3 _).mono ?_
      rintro e w3 ⟨rfl, hb3⟩
      have B3 := hid (B2.out.trans (hb3.mono B2.out.size))
      have O3 := hid (own_below O2.out hb3)
      have sz3 := B3.out.size
      have S3 := hid (Sl.four (w := w3) (x0 := B6.one 0 m x0 x1 x2) (x1 := B6.one 1 m x0 x1 x2) (x2 := B6.one 2 m x0 x1 x2) (x3 := B6.one 3 m x0 x1 x2) 72 (fun j => B6.one j m x0 x1 x2) (fun i => B6.one_bd i m b0 b1 b2) rfl rfl rfl rfl)
      have h4k : 4 * k + 4 ≤ 140737488355328 := by have := hp.out; omega
      clear B2 O2 hb3 hb2 q0 q1 q2
      go_wp2_with (at_builtin; refine wpList_append_sl rfl _ _ 26 rfl w.heap.size 5 i0 Tryd.underlying26 hi0 hz0 hz1 hz2 u3 (4 * k) (B6.encF f n) rfl (O3.out.alloc _) (some ⟨w3.heap.size, 0, none⟩) 4 4 _ rfl S3.out h4k (by simp; omega) ?_)
      intro v4 w4 ho4 hg4
      have B4 := hid ((B3.out.alloc sz3 _).grown hg4 (by simp; omega) (fun j hj => (O3.out.lt j hj).1))
      have O4 : w4.ownsRow w.heap.size 5 1 v4 (4 * (k + 1)) (vals (B6.encF f n) (4 * (k + 1))) := by
        rw [show 4 * (k + 1) = 4 * k + 4 by omega, vals_congr (g := cat (B6.encF f n) (4 * k) (fun j => B6.one j m x0 x1 x2)) (fun i hi => ?_)]
        · exact ho4
        · by_cases h4 : i < 4 * k
          · rw [cat_lt h4]
          · rw [cat_ge (by omega), show i = 4 * k + (i - 4 * k) by omega, B6.encF_at f n k _ (by omega), HM.out, B6.one_min (by omega), HX.out.1, HX.out.2.1, HX.out.2.2, hp.out, show 4 * k + (i - 4 * k) - 4 * k = i - 4 * k by omega]
            rfl
      have HO4 := hid O4
      clear O4 ho4 hg4
      go_wp2_with fail
      go_roundg (n - (p + 3))
      case measure => omega
      case rel => exact ⟨p + 3, k + 1, hid (by have := hp.out; omega), rfl, by omega, by go_num, HO4, B4⟩
    · have h1 : ¬ (p : Int) < n := by omega
      have hk : 4 * k = B6.encN n := by have := hp.out; unfold B6.encN; omega
      have O1 := HO.out
      rw [hk] at O1
      obtain ⟨a5, c5, rfl, hs5⟩ := Sl.own O1 (B6.encF_bd SL.out.bd n)
      have cv := run_convert_sl (P := Tryd.prog) wr 26 5 9 Tryd.underlying26 Tryd.underlying5 Tryd.underlying9 hs5
      clear O1 HO hs5
      go_wp2_with fail
      go_ret
      exact ⟨rfl, HB.out⟩
end Go.Proofs.YthemaacfjmcbnaaDoor
