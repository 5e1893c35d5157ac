/-
  The walk of base64.Decode.
-/
import Derived.Test.YthemaacfjmcbnaaDoorSlX
import Derived.Test.YthemaacfjmcbnaaDoorB6W3
import Derived.Test.YthemaacfjmcbnaaDoorB6MathB
import Derived.Test.YthemaacfjmcbnaaDoorCpy
import Derived.Test.YthemaacfjmcbnaaDoorOwn
import Derived.Test.YthemaacfjmcbnaaDoorB6I
import Derived.Deep.RegionHeld3
namespace Go.Proofs.YthemaacfjmcbnaaDoor
open Go.RowKit
set_option linter.unusedVariables false


/-- What Decode answers. -/
def DecOut (f : Nat → Int) (n : Nat) (e : Ending) (w' : World) : Prop :=
  (B6.Good f n ∧ ∃ a c, e = .returned (.tuple #[.slice a (B6.decN f n) c, .int .i64 0, .bool true]) ∧ Sl w' a (B6.decN f n) c (B6.decF f)) ∨
  (∃ p, B6.Bad f n p ∧ e = .returned (.tuple #[.slice none 0 0, .int .i64 (p : Nat), .bool false]))

set_option maxRecDepth 100000 in
set_option maxHeartbeats 3200000 in
theorem b6decode_calls (s : ByteArray) (n : Nat) (f : Nat → Int) (w : World) (hn : n ≤ 100000) (hS : St s n f) :
    Calls Tryd.prog 33 #[.string s] w fun e w' => DecOut f n e w' ∧ Below w.heap.size w w' := by
  obtain ⟨i0, hi0, hz0, hz1, hz2⟩ := info_parts Tryd.infoB
  have hszE : (Tryd.prog.info? 5).map (·.size) = some 1 := by rw [hi0]; simp [hz1]
  have HS := hid hS
  have hsz := hS.size
  clear hS
  go_enter Tryd.func33, Tryd.ntmps33
  go_wp2_with fail
  go_loopg [5, 6] n (fun r v iv wr => ∃ p k m : Nat, Hid (p = 4 * k) ∧ r = n - p ∧ p ≤ n + 3 ∧ iv = .int .i64 p ∧ Hid ((B6.Full f n k ∧ m = 3 * k) ∨ (n ≤ p ∧ B6.Good f n ∧ m = B6.decN f n)) ∧ m ≤ 100000 ∧ Hid (wr.ownsRow w.heap.size 5 1 v m (vals (B6.decF f) m)) ∧ Hid (Below w.heap.size w wr))
  case atStart => exact ⟨0, 0, 0, hid rfl, by omega, by omega, rfl, hid (Or.inl ⟨B6.full_zero f n, rfl⟩), by omega, hid (World.ownsRow_nil _ _ _ _), hid (Below.refl _ _)⟩
  case round =>
    obtain ⟨p, k, m, hp, rfl, hpn, rfl, HG, hm, HO, HB⟩ := hrel
    by_cases hlt : p < n
    · have h1 : (p : Int) < n := by omega
      have h0 : (0 : Int) ≤ p := by omega
      have hle : (p : Int) ≤ n := by omega
      obtain ⟨hF, hm3⟩ : B6.Full f n k ∧ m = 3 * k := by
        rcases HG.out with h | h
        · exact h
        · omega
      have HF := hid hF
      have HM := hid hm3
      clear hF hm3
      have S1 := hid (HS.out.extract p n (by omega) (Nat.le_refl _))
      have B1 := hid ((Below.refl wr.heap.size wr).alloc (Nat.le_refl _) (.cells #[.int .u8 0, .int .u8 0, .int .u8 0, .int .u8 0] 72))
      go_wp2_with fail
      go_region_held3 (fun _ => True) (trivial) ((refine step_copy_st rfl _ _ 26 9 rfl 5 Tryd.underlying26 hszE wr.heap.size 4 4 (s.extract p n) rfl rfl (fun _ => 0) 72 (heap_alloc_new wr _) (n - p) _ S1.out wr.heap.size wr B1.out.drew (Nat.le_refl _) ?_; intro w2 hg2 hb2))
      have hz : ∀ j, ovl (fun j => f (p + j)) (n - p) (fun _ => 0) j = B6.z f n (p + j) := fun j => by
        unfold ovl B6.z
        by_cases hj : p + j < n
        · rw [if_pos (by omega), if_pos hj]
        · rw [if_neg (by omega), if_neg hj]
      have q0 := cell_of_row hg2.out 0 (by omega)
      have q1 := cell_of_row hg2.out 1 (by omega)
      have q2 := cell_of_row hg2.out 2 (by omega)
      have q3 := cell_of_row hg2.out 3 (by omega)
      rw [hz] at q0 q1 q2 q3
      clear hz
      have B2 := hid (HB.out.trans (hb2.mono HB.out.size))
      have O2 := hid (own_below HO.out hb2)
      have zb := B6.z_bd (n := n) HS.out.bd
      obtain ⟨x0, hx0⟩ : ∃ x, x = B6.z f n (p + 0) := ⟨_, rfl⟩
      obtain ⟨x1, hx1⟩ : ∃ x, x = B6.z f n (p + 1) := ⟨_, rfl⟩
      obtain ⟨x2, hx2⟩ : ∃ x, x = B6.z f n (p + 2) := ⟨_, rfl⟩
      obtain ⟨x3, hx3⟩ : ∃ x, x = B6.z f n (p + 3) := ⟨_, rfl⟩
      have b0 := zb (p + 0)
      have b1 := zb (p + 1)
      have b2 := zb (p + 2)
      have b3 := zb (p + 3)
      rw [← hx0] at q0 b0
      rw [← hx1] at q1 b1
      rw [← hx2] at q2 b2
      rw [← hx3] at q3 b3
      have HX := hid (show x0 = B6.z f n (4 * k) ∧ x1 = B6.z f n (4 * k + 1) ∧ x2 = B6.z f n (4 * k + 2) ∧ x3 = B6.z f n (4 * k + 3) by
        have := hp.out; subst this; exact ⟨hx0, hx1, hx2, hx3⟩)
      have HGR := hid (show B6.grp f n k = B6.fp x0 x1 x2 x3 by unfold B6.grp; rw [HX.out.1, HX.out.2.1, HX.out.2.2.1, HX.out.2.2.2])
      have HCN := hid (show B6.cnt f n k = B6.np x0 x1 x2 x3 by unfold B6.cnt; rw [HX.out.1, HX.out.2.1, HX.out.2.2.1, HX.out.2.2.2])
      have hq := World.block_lt_of_cell? _ _ q0
      clear hx0 hx1 hx2 hx3 zb hg2 HO S1 B1 hb2
      go_wp2_with fail
      refine (firstPart_calls x0 x1 x2 x3 b0 b1 b2 b3 _).mono ?_
      rintro e w3 ⟨rfl, hb3⟩
      have B3 := hid (B2.out.trans (hb3.mono B2.out.size))
      have O3 := hid (own_below O2.out hb3)
      rw [← hb3.cell (p := ⟨wr.heap.size, 0, none⟩) hq] at q0
      rw [← hb3.cell (p := ⟨wr.heap.size, 1, none⟩) hq] at q1
      rw [← hb3.cell (p := ⟨wr.heap.size, 2, none⟩) hq] at q2
      rw [← hb3.cell (p := ⟨wr.heap.size, 3, none⟩) hq] at q3
      clear B2 O2 hb3 hq
      obtain ⟨g, hg⟩ : ∃ g, B6.fp x0 x1 x2 x3 = g := ⟨_, rfl⟩
      have hg4 : g ≤ 4 := by rw [← hg]; exact B6.fp_le _ _ _ _
      rw [hg]
      have HGG := hid hg
      clear hg
      by_cases hlt4 : g < 4
      · have hlt4' : (g : Int) < 4 := by omega
        go_wp2_with fail
        go_ret3
        refine ⟨Or.inr ⟨4 * k + g, ⟨k, by have := hp.out; omega, HF.out, Or.inl ⟨by rw [HGR.out, HGG.out]; exact hlt4, by rw [HGR.out, HGG.out]⟩⟩, ?_⟩, B3.out⟩
        rw [show ((4 * k + g : Nat) : Int) = (p : Int) + g by have := hp.out; omega]
        rfl
      obtain rfl : g = 4 := by omega
      have hpt := B6.fp_four HGG.out
      have hnth : ∀ j, (0 ≤ B6.nth x0 x1 x2 x3 j ∧ B6.nth x0 x1 x2 x3 j ≤ 255) ∧ (B6.nth x0 x1 x2 x3 j = 61 ∨ 0 ≤ B6.val (B6.nth x0 x1 x2 x3 j)) := fun j => by
        obtain ⟨ha, hb, hc⟩ := hpt
        unfold B6.nth
        repeat' split
        · exact ⟨b0, Or.inr ha⟩
        · exact ⟨b1, Or.inr hb⟩
        · exact ⟨b2, by rcases hc with h | h | h; exact Or.inl h.1; exact Or.inr h.1; exact Or.inr h.1⟩
        · exact ⟨b3, by rcases hc with h | h | h; exact Or.inl h.2.1; exact Or.inl h.2.1; exact Or.inr h.2⟩
      have HN := hid hnth
      obtain ⟨y0, hy0⟩ : ∃ y, y = (B6.u x0 * 4 + B6.u x1 / 16) % 256 := ⟨_, rfl⟩
      obtain ⟨y1, hy1⟩ : ∃ y, y = (B6.u x1 * 16 + B6.u x2 / 4) % 256 := ⟨_, rfl⟩
      obtain ⟨y2, hy2⟩ : ∃ y, y = (B6.u x2 * 64 + B6.u x3) % 256 := ⟨_, rfl⟩
      obtain ⟨c, hc⟩ : ∃ c : Nat, B6.np x0 x1 x2 x3 = c := Int.eq_ofNat_of_zero_le (by have := (B6.np_four HGG.out).1; omega)
      have hcb := B6.np_four HGG.out
      rw [hc] at hcb
      have HC := hid hc
      have cb := fun ww => bytesOf_calls x0 x1 x2 x3 (fun j => (HN.out j).1) (fun j => (HN.out j).2) ww
      rw [← hy0, ← hy1, ← hy2, hc] at cb
      have yb : (0 ≤ y0 ∧ y0 ≤ 255) ∧ (0 ≤ y1 ∧ y1 ≤ 255) ∧ (0 ≤ y2 ∧ y2 ≤ 255) := by omega
      have HY := hid (And.intro hy0 (And.intro hy1 hy2))
      have CB := hid cb
      clear cb hc hy0 hy1 hy2 hnth hpt
      go_wp2_with fail
      refine (CB.out _).mono ?_
      rintro e w4 ⟨rfl, hb4⟩
      have B4 := hid (B3.out.trans (hb4.mono B3.out.size))
      have O4 := hid (own_below O3.out hb4)
      have sz4 := B4.out.size
      clear B3 O3 hb4 q0 q1 q2 q3 CB
      have hnp : IntKind.i64.wrap ((p : Int) + 4) = (p : Int) + 4 := i64_in (by omega) (by omega)
      have S4 := hid (Sl.three (w := w4) (x0 := y0) (x1 := y1) (x2 := y2) 71 (B6.byt x0 x1 x2 x3) c (by omega) (B6.byt_bd _ _ _ _) HY.out.1 HY.out.2.1 HY.out.2.2)
      have HOW := hid (show ∀ (v : Value) (w' : World), w'.ownsRow w.heap.size 5 1 v (m + c) (vals (cat (B6.decF f) m (B6.byt x0 x1 x2 x3)) (m + c)) → w'.ownsRow w.heap.size 5 1 v (m + c) (vals (B6.decF f) (m + c)) from fun v w' h => by
        rw [vals_congr (g := cat (B6.decF f) m (B6.byt x0 x1 x2 x3)) (fun i hi => ?_)]
        · exact h
        · by_cases h4 : i < m
          · rw [cat_lt h4]
          · have e3 := HM.out
            have hd := B6.dec_group (f := f) (n := n) (k := k) (by rw [HGR.out, HGG.out]) (i - m) (by rw [HCN.out, HC.out]; omega)
            rw [cat_ge (by omega), HX.out.1, HX.out.2.1, HX.out.2.2.1, HX.out.2.2.2, ← hd]
            congr 1
            omega)
      have hcn0 : (0 : Int) ≤ c := by omega
      have hcn3 : (c : Int) ≤ 3 := by omega
      by_cases hc3 : c < 3
      · have hc3' : (c : Int) < 3 := by omega
        by_cases hl : p + 4 < n
        · have hl' : (p : Int) + 4 < n := by omega
          go_wp2_with fail
          go_ret3
          refine ⟨Or.inr ⟨4 * k + 4, ⟨k, by have := hp.out; omega, HF.out, Or.inr ⟨by rw [HGR.out, HGG.out], by rw [HCN.out, HC.out]; omega, by have := hp.out; omega, rfl⟩⟩, ?_⟩, B4.out.alloc sz4 _⟩
          rw [show ((4 * k + 4 : Nat) : Int) = (p : Int) + 4 by have := hp.out; omega]
          rfl
        · have hl' : ¬ (p : Int) + 4 < n := by omega
          go_wp2_with (at_builtin; refine wpList_append_sl rfl _ _ 26 rfl w.heap.size 5 i0 Tryd.underlying26 hi0 hz0 hz1 hz2 u5 m (B6.decF f) rfl (O4.out.alloc _) (some ⟨w4.heap.size, 0, none⟩) c 3 _ rfl S4.out (by omega) (by simp; omega) ?_)
          intro v5 w5 ho5 hg5
          have B5 := hid ((B4.out.alloc sz4 _).grown hg5 (by simp; omega) (fun j hj => (O4.out.lt j hj).1))
          have O5 := hid (HOW.out _ _ ho5)
          clear ho5 hg5
          go_wp2_with fail
          go_roundg (n - (p + 4))
          case measure => omega
          case rel => exact ⟨p + 4, k + 1, m + c, hid (by have := hp.out; omega), rfl, by omega, by go_num, hid (Or.inr ⟨by omega, (B6.good_of_last HF.out (by rw [HGR.out, HGG.out]) (by have := hp.out; omega)).1, by rw [(B6.good_of_last HF.out (by rw [HGR.out, HGG.out]) (by have := hp.out; omega)).2, HM.out, HCN.out, HC.out]; rfl⟩), by have := HM.out; have := hp.out; omega, O5, B5⟩
      · have hc3' : ¬ (c : Int) < 3 := by omega
        go_wp2_with (at_builtin; refine wpList_append_sl rfl _ _ 26 rfl w.heap.size 5 i0 Tryd.underlying26 hi0 hz0 hz1 hz2 u5 m (B6.decF f) rfl (O4.out.alloc _) (some ⟨w4.heap.size, 0, none⟩) c 3 _ rfl S4.out (by omega) (by simp; omega) ?_)
        intro v5 w5 ho5 hg5
        have B5 := hid ((B4.out.alloc sz4 _).grown hg5 (by simp; omega) (fun j hj => (O4.out.lt j hj).1))
        have O5 := hid (HOW.out _ _ ho5)
        clear ho5 hg5
        go_wp2_with fail
        go_roundg (n - (p + 4))
        case measure => omega
        case rel => exact ⟨p + 4, k + 1, m + c, hid (by have := hp.out; omega), rfl, by omega, by go_num, hid (Or.inl ⟨B6.full_succ HF.out (by rw [HGR.out, HGG.out]) (by rw [HCN.out, HC.out]; omega), by have := HM.out; omega⟩), by have := HM.out; have := hp.out; omega, O5, B5⟩
    · have h1 : ¬ (p : Int) < n := by omega
      have hk : B6.Good f n ∧ m = B6.decN f n := by
        rcases HG.out with ⟨h, h2⟩ | ⟨_, h⟩
        · have := B6.good_of_full h (by have := hp.out; omega)
          exact ⟨this.1, by rw [this.2, h2]⟩
        · exact h
      obtain ⟨hk1, rfl⟩ := hk
      obtain ⟨a5, c5, rfl, hs5⟩ := Sl.own HO.out (B6.decF_bd f)
      have HS5 := hid hs5
      have HK := hid hk1
      clear hs5 hk1 HO HG
      go_wp2_with fail
      go_ret3
      exact ⟨Or.inl ⟨HK.out, _, _, rfl, HS5.out⟩, HB.out⟩
end Go.Proofs.YthemaacfjmcbnaaDoor
