/-
  Walks of the law's bytes and fixed.
-/
import Derived.Test.YtjpboackbjfenaaVcS6
import Derived.Test.YtjpboackbjfenaaVcF0
namespace Go.Proofs.Ytjpboackbjfenaa
open Go.RowKit Go.Maps
set_option linter.unusedVariables false

theorem Try.infoRow : (Try.prog.info? 32).map (fun i => (i.zero, i.size, i.bytes)) = some (some (.agg #[.string ⟨#[]⟩, .int .i64 0]), 2, 24) := by kernel_rfl

set_option maxRecDepth 100000 in
set_option maxHeartbeats 3200000 in
theorem lbytes_calls (w : World) : Calls Try.prog 24 #[] w fun e w' => (∃ v, e = .returned v ∧ w'.ownsRow w.heap.size 32 2 v 256 (rv (Vc.bR 256))) ∧ Below w.heap.size w w' := by
  obtain ⟨i0, hi, hz0, hz1, hz2⟩ := info_parts Try.infoRow
  go_enter Try.func24, Try.ntmps24
  go_wp2_with fail
  go_loopg [1, 3] 256 (fun r mvv iv wr => ∃ (j : Nat) (v : Value), r = 256 - j ∧ v = mvv ∧ iv = .int .i64 (j : Int) ∧ j ≤ 256 ∧ Hid (wr.ownsRow w.heap.size 32 2 v j (rv (Vc.bR j))) ∧ Hid (Below w.heap.size w wr))
  case atStart => exact ⟨0, _, rfl, rfl, rfl, by omega, hid ⟨rfl, .inl ⟨rfl, rfl⟩⟩, hid (Below.refl _ _)⟩
  case round =>
    obtain ⟨j, v, rfl, rfl, rfl, hj, HO, HB⟩ := hrel
    by_cases hlt : j < 256
    · have l0 : (0 : Int) ≤ j := by omega
      have l1 : (j : Int) < 256 := by omega
      have l2 : IntKind.i64.wrap ((j : Int) + 1) = j + 1 := i64_in (by omega) (by omega)
      have e3 : IntKind.u8.wrap (j : Int) = j := u8_in' (by omega) (by omega)
      have cv := cv_one wr j
      have hb0 := HB.out.size
      obtain ⟨S, hS⟩ : ∃ S, Vc.one j = S := ⟨_, rfl⟩
      rw [hS] at cv
      have HSS := hid hS
      clear hS
      have OB := hid (show ∀ q, v.ownBlock = some q → w.heap.size ≤ q from fun q hq => by
        obtain ⟨_, ho⟩ := HO.out
        rcases ho with ⟨h1, _⟩ | ⟨g, cap, cur, h1, hb, _⟩
        · rw [h1] at hq; simp [Value.ownBlock] at hq
        · rw [h1] at hq; simp [Value.ownBlock] at hq; omega)
      have B2 := hid ((HB.out.alloc HB.out.size (.cells #[.int .u8 (j : Int)] 5)).alloc (by simp; omega) (.cells #[.string S, .int .i64 (j : Int)] 32))
      go_wp2_with (at_builtin; refine wpList_append_src rfl _ _ 29 rfl w.heap.size 32 i0 (.agg #[.string ⟨#[]⟩, .int .i64 0]) 2 24 Try.underlying29 hi hz0 hz1 hz2 rfl (by decide) _ j _ rfl ((HO.out.alloc _).alloc _) (some ⟨wr.heap.size + 1, 0, none⟩) 1 1 [.string S, .int .i64 (j : Int)] rfl (by simpa using src_row (w := wr.alloc (.cells #[.int .u8 (j : Int)] 5)) S (j : Int) 32) (by unfold maxLen; omega) (by omega) (by simp; omega) ?_; intro v3 w3 own gr loc; have O3 := hid own; have G3 := hid gr; clear own gr loc)
      go_roundg (256 - (j + 1))
      case measure => omega
      case rel =>
        refine ⟨j + 1, v3, rfl, rfl, by go_num, by omega, hid ?_, hid (B2.out.grown G3.out (by simp; omega) OB.out)⟩
        rw [Vc.bR_succ, HSS.out, ← rv_snoc]
        exact O3.out
    · obtain rfl : j = 256 := by omega
      have k1 : ¬ (((256 : Nat) : Int) < 256) := by omega
      go_wp2_with fail
      go_ret
      exact ⟨⟨_, rfl, HO.out⟩, HB.out⟩

set_option maxRecDepth 100000 in
set_option maxHeartbeats 3200000 in
theorem fixed_calls (w : World) : Calls Try.prog 10 #[] w fun e w' => e = .returned (.bool true) ∧ Below w.heap.size w w' := by
  obtain ⟨i0, hi, hz0, hz1, hz2⟩ := info_parts Try.infoRow
  go_enter Try.func10, Try.ntmps10
  go_wp2_with fail
  refine (lbytes_calls w).mono ?_
  rintro e w1 ⟨⟨v, rfl, hv⟩, b1⟩
  have O1 := hid hv
  have B1 := hid b1
  have hb1 := b1.size
  clear hv b1
  have OB := hid (show ∀ q, v.ownBlock = some q → w.heap.size ≤ q from fun q hq => by
    obtain ⟨_, ho⟩ := O1.out
    rcases ho with ⟨h1, _⟩ | ⟨g, cap, cur, h1, hb, _⟩
    · rw [h1] at hq; simp [Value.ownBlock] at hq
    · rw [h1] at hq; simp [Value.ownBlock] at hq; omega)
  have B2 := hid (B1.out.alloc B1.out.size (.cells #[.string { data := #[97, 98] }, .int .i64 256] 32))
  go_wp2_with (at_builtin; refine wpList_append_src rfl _ _ 29 rfl w.heap.size 32 i0 (.agg #[.string ⟨#[]⟩, .int .i64 0]) 2 24 Try.underlying29 hi hz0 hz1 hz2 rfl (by decide) _ 256 _ rfl (O1.out.alloc _) (some ⟨w1.heap.size, 0, none⟩) 1 1 [.string { data := #[97, 98] }, .int .i64 256] rfl (src_row { data := #[97, 98] } 256 _) (by unfold maxLen; omega) (by omega) (by simp; omega) ?_; intro v3 w3 own gr loc; have O3 := hid own; have G3 := hid gr; clear own gr loc; obtain ⟨a3, c3, rfl, r3⟩ := Rw.ofOwn (xs := Vc.fixR) (show w3.ownsRow w.heap.size 32 2 v3 257 (rv Vc.fixR) from by rw [show Vc.fixR = Vc.bR 256 ++ [(Vc.ab, (256 : Int))] from rfl, ← rv_snoc]; exact O3.out); have R3 := hid r3; clear r3 O3; have B3 := hid (B2.out.grown G3.out (by simp; omega) OB.out); clear G3 B2)
  refine (fromRows_calls R3.out (Rw.none w3 0 none (Nat.zero_le _) (fun _ => rfl)) (fun i hi => Nat.le_trans (Vc.fixR_size i hi) (by decide)) (by omega)).mono ?_
  rintro e w4 ⟨E4, b4⟩
  have B4 := hid (B3.out.trans (b4.mono B3.out.size))
  clear b4
  rcases E4 with ⟨ts, ms, sp', a, n, c, am, nm, cm, az, ns, cs, hF, _, rfl, hV⟩ | ⟨hno, _⟩
  · obtain ⟨rfl, rfl, rfl⟩ := Vc.fix_from.one hF
    have V4 := hid hV
    have hnm : nm = 1 := by rw [← hV.M.len]; rfl
    subst hnm
    obtain ⟨b, off, rfl, hbl, hc⟩ := hV.M.at' (by omega)
    obtain ⟨c0, c1, c2, c3'⟩ := hc 0 (by omega)
    simp only [mat, List.getD_cons_zero, Nat.zero_mul, Nat.add_zero] at c0 c1 c2 c3'
    clear hc hV hF
    have B5 := hid (B4.out.alloc B4.out.size (.cells #[.slice a n c, .slice (some ⟨b, off, none⟩) 1 cm, .slice az ns cs] 26))
    have V5 := hid (V4.out.below ((Below.refl _ w4).alloc (Nat.le_refl _) (.cells #[.slice a n c, .slice (some ⟨b, off, none⟩) 1 cm, .slice az ns cs] 26)))
    have X5 := hid (Bx3.new w4 26 (.slice a n c) (.slice (some ⟨b, off, none⟩) 1 cm) (.slice az ns cs))
    have d0 := cell_alloc c0 (.cells #[.slice a n c, .slice (some ⟨b, off, none⟩) 1 cm, .slice az ns cs] 26)
    have d1 := cell_alloc c1 (.cells #[.slice a n c, .slice (some ⟨b, off, none⟩) 1 cm, .slice az ns cs] 26)
    have d2 := cell_alloc c2 (.cells #[.slice a n c, .slice (some ⟨b, off, none⟩) 1 cm, .slice az ns cs] 26)
    have d3 := cell_alloc c3' (.cells #[.slice a n c, .slice (some ⟨b, off, none⟩) 1 cm, .slice az ns cs] 26)
    have x0 := X5.out.cell0
    have x1 := X5.out.cell1
    have x2 := X5.out.cell2
    go_wp2_with fail
    refine (of_calls V5.out.T { data := #[97, 98] }).mono ?_
    rintro e w6 ⟨⟨r, rfl, hr⟩, b6⟩
    have B6 := hid (B5.out.trans (b6.mono B5.out.size))
    have hr2 : r = 256 := by
      rcases hr with ⟨h, _⟩ | ⟨_, ⟨j, rfl, hj, he, _⟩ | ⟨_, h⟩⟩
      · exact absurd h (by decide)
      · have := Vc.fix_mayT.apart j 256 hj (by rw [Vc.fixT_len]; omega) (by rw [he]; decide) (by rw [he, Vc.fixT_hi]; rfl)
        rw [this]; rfl
      · exact absurd (show at_ Vc.fixT 256 = { data := #[97, 98] } from Vc.fixT_hi) (h 256 (by rw [Vc.fixT_len]; omega))
    subst hr2
    clear hr b6
    go_wp2_with fail
    go_ret
    exact ⟨rfl, B6.out⟩
  · exact absurd ⟨_, _, _, Vc.fix_from⟩ hno
end Go.Proofs.Ytjpboackbjfenaa
