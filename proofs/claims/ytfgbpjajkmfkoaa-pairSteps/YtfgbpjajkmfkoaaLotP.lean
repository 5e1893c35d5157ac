/-
  Several texts in one: PrFx, PrLt, PrFd, PrEq.
-/
import Derived.Test.YtfgbpjajkmfkoaaVcF0
import Derived.Test.YtfgbpjajkmfkoaaPrMath
import Derived.Test.YtfgbpjajkmfkoaaVrF
import Derived.Test.YtfgbpjajkmfkoaaVcW8
import Derived.Test.YtfgbpjajkmfkoaaPrNew
import Derived.Test.YtfgbpjajkmfkoaaPrRefB
import Derived.Laws.StructEq
/-
  The chapter's example, in plain mathematics: the 256 bytes, "ab" and "bc" make a vocabulary of two merges. No program is named here.
-/
namespace Go.Proofs.Ytfgbpjajkmfkoaa
open Go.RowKit
namespace Vc
def bc : ByteArray := mk [98, 99]
theorem bc_sz : bc.size = 2 := rfl
def fixR2 : Sps := bR 256 ++ [(ab, 256), (bc, 257)]
def fixT2 : Toks := (List.range 256).map one ++ [ab, bc]
def fixM2 : List Mg4 := [((97 : Int), (98 : Int), (256 : Int), (256 : Int)), ((98 : Int), (99 : Int), (257 : Int), (257 : Int))]
theorem ab_bc : ab ≠ bc := fun h => by
  have := mk_inj h
  simp at this
theorem fixR2_len : fixR2.length = 258 := by simp [fixR2, bR_len]
theorem fixT2_len : fixT2.length = 258 := by simp [fixT2]
theorem fixR2_lo {i : Nat} (h : i < 256) : tat fixR2 i = one i ∧ kat fixR2 i = i := by
  have h1 : fixR2[i]? = some (one i, (i : Int)) := by
    unfold fixR2
    rw [List.getElem?_append_left (by rw [bR_len]; exact h)]
    simp [bR, h]
  simp [tat, kat, List.getD_eq_getElem?_getD, h1]
theorem fixR2_a : tat fixR2 256 = ab ∧ kat fixR2 256 = 256 := by
  have h1 : fixR2[256]? = some (ab, 256) := by
    unfold fixR2
    rw [List.getElem?_append_right (by rw [bR_len]; omega), bR_len]
    rfl
  simp [tat, kat, List.getD_eq_getElem?_getD, h1]
theorem fixR2_b : tat fixR2 257 = bc ∧ kat fixR2 257 = 257 := by
  have h1 : fixR2[257]? = some (bc, 257) := by
    unfold fixR2
    rw [List.getElem?_append_right (by rw [bR_len]; omega), bR_len]
    rfl
  simp [tat, kat, List.getD_eq_getElem?_getD, h1]
theorem fixT2_lo {i : Nat} (h : i < 256) : at_ fixT2 i = one i := by
  have h1 : fixT2[i]? = some (one i) := by
    unfold fixT2
    rw [List.getElem?_append_left (by simpa using h)]
    simp [h]
  simp [at_, List.getD_eq_getElem?_getD, h1]
theorem fixT2_a : at_ fixT2 256 = ab := by
  have h1 : fixT2[256]? = some ab := by
    unfold fixT2
    rw [List.getElem?_append_right (by simp)]
    simp
  simp [at_, List.getD_eq_getElem?_getD, h1]
theorem fixT2_b : at_ fixT2 257 = bc := by
  have h1 : fixT2[257]? = some bc := by
    unfold fixT2
    rw [List.getElem?_append_right (by simp)]
    simp
  simp [at_, List.getD_eq_getElem?_getD, h1]
theorem two58 {i : Nat} (h : i < 258) : i < 256 ∨ i = 256 ∨ i = 257 := by omega
theorem fixT2_sz {i : Nat} (h : i < 258) : (at_ fixT2 i).size ≠ 0 ∧ (at_ fixT2 i).size ≤ 2 := by
  rcases two58 h with h | rfl | rfl
  · rw [fixT2_lo h, one_sz]; omega
  · rw [fixT2_a, ab_sz]; omega
  · rw [fixT2_b, bc_sz]; omega
theorem one_two {i : Nat} {s : ByteArray} (hs : s.size = 2) : one i ≠ s := fun h => by
  have := congrArg ByteArray.size h
  rw [one_sz, hs] at this
  omega
theorem fix2_mayT : MayT fixT2 where
  len := by rw [fixT2_len]; omega
  sz := fun i hi => by
    rw [fixT2_len] at hi
    have := (fixT2_sz hi).2
    omega
  apart := fun i j hi hj _ he => by
    rw [fixT2_len] at hi hj
    rcases two58 hi with h | rfl | rfl
    · rcases two58 hj with k | rfl | rfl
      · rw [fixT2_lo h, fixT2_lo k] at he
        exact one_inj h k he
      · rw [fixT2_lo h, fixT2_a] at he; exact absurd he (one_two ab_sz)
      · rw [fixT2_lo h, fixT2_b] at he; exact absurd he (one_two bc_sz)
    · rcases two58 hj with k | rfl | rfl
      · rw [fixT2_lo k, fixT2_a] at he; exact absurd he.symm (one_two ab_sz)
      · rfl
      · rw [fixT2_a, fixT2_b] at he; exact absurd he ab_bc
    · rcases two58 hj with k | rfl | rfl
      · rw [fixT2_lo k, fixT2_b] at he; exact absurd he.symm (one_two bc_sz)
      · rw [fixT2_a, fixT2_b] at he; exact absurd he.symm ab_bc
      · rfl
  all := fun b hb => ⟨b, by rw [fixT2_len]; omega, fixT2_lo hb⟩
theorem fix2_num {i : Nat} (h : i < 256) : num fixT2 (one i) = some i := by
  have := num_at fix2_mayT (i := i) (by rw [fixT2_len]; omega) (fixT2_sz (by omega)).1
  rwa [fixT2_lo h] at this
theorem fix2_cuts : cutsL fixT2 258 = fixM2 := by
  have h0 : ∀ n, n ≤ 256 → cutsL fixT2 n = [] := by
    intro n
    induction n with
    | zero => intro _; rfl
    | succ n ih =>
      intro h
      rw [cutsL, ih (by omega), fixT2_lo (show n < 256 by omega), one_sz]
      rfl
  have e1 : ab.extract 0 1 = one 97 := by apply by_inj; rw [by_extract]; rfl
  have e2 : ab.extract 1 2 = one 98 := by apply by_inj; rw [by_extract]; rfl
  have e3 : bc.extract 0 1 = one 98 := by apply by_inj; rw [by_extract]; rfl
  have e4 : bc.extract 1 2 = one 99 := by apply by_inj; rw [by_extract]; rfl
  have c1 : cutAt fixT2 256 1 = [((97 : Int), (98 : Int), (256 : Int), (256 : Int))] := by
    unfold cutAt
    rw [fixT2_a, ab_sz, e1, e2, fix2_num (by omega), fix2_num (by omega)]
    rfl
  have c2 : cutAt fixT2 257 1 = [((98 : Int), (99 : Int), (257 : Int), (257 : Int))] := by
    unfold cutAt
    rw [fixT2_b, bc_sz, e3, e4, fix2_num (by omega), fix2_num (by omega)]
    rfl
  have h1 : cutsL fixT2 257 = [((97 : Int), (98 : Int), (256 : Int), (256 : Int))] := by
    rw [cutsL, h0 256 (Nat.le_refl _), fixT2_a, ab_sz]
    show [] ++ ([] ++ cutAt fixT2 256 1) = _
    rw [c1]
    rfl
  rw [cutsL, h1, fixT2_b, bc_sz]
  show [_] ++ ([] ++ cutAt fixT2 257 1) = _
  rw [c2]
  rfl
theorem fix2_is {i : Nat} (h : i < 258) : Is fixT2 (i : Int) := ⟨by omega, by rw [fixT2_len]; omega, by rw [Int.toNat_natCast]; exact (fixT2_sz h).1⟩
theorem fix2_kat {i : Nat} (h : i < 258) : kat fixR2 i = i := by
  rcases two58 h with h | rfl | rfl
  · exact (fixR2_lo h).2
  · exact fixR2_a.2
  · exact fixR2_b.2
theorem fix2_from : FromIs fixR2 [] fixT2 fixM2 [] where
  ranks := ⟨fun i hi => by
      rw [fixR2_len] at hi
      rw [fix2_kat hi]; exact ⟨by omega, by omega⟩, fun i hi => by simp at hi, fun i j hij hj => by
      rw [fixR2_len] at hj
      rw [fix2_kat hj, fix2_kat (by omega)]; omega⟩
  tok := ⟨⟨fun i hi => by
      rw [fixR2_len] at hi
      rw [fixT2_len, fix2_kat hi]; omega, fun i hi => by simp at hi, .inr (.inl ⟨257, by rw [fixR2_len]; omega, by rw [fixR2_b.2, fixT2_len]; rfl⟩)⟩, fun i hi => by
      rw [fixR2_len] at hi
      rw [fix2_kat hi, Int.toNat_natCast]
      rcases two58 hi with h | rfl | rfl
      · rw [(fixR2_lo h).1, fixT2_lo h]
      · rw [fixR2_a.1, fixT2_a]
      · rw [fixR2_b.1, fixT2_b], fun k hk hno => by
      rw [fixT2_len] at hk
      exact absurd (fix2_kat hk) (hno k (by rw [fixR2_len]; exact hk))⟩
  cuts := ⟨by rw [fixT2_len, fix2_cuts], by simp [fixM2, Ahead]⟩
  sps := ⟨List.Perm.refl _, List.Pairwise.nil⟩
  may := ⟨fix2_mayT, ⟨by simp [fixM2], fun i hi => by
      have h2 : i = 0 ∨ i = 1 := by simp [fixM2] at hi; omega
      rcases h2 with rfl | rfl
      · refine ⟨fix2_is (i := 97) (by omega), fix2_is (i := 98) (by omega), fix2_is (i := 256) (by omega), ?_, by simp [mat, fixM2], by simp [mat, fixM2]⟩
        show at_ fixT2 256 = at_ fixT2 97 ++ at_ fixT2 98
        rw [fixT2_a, fixT2_lo (by omega), fixT2_lo (by omega)]
        rfl
      · refine ⟨fix2_is (i := 98) (by omega), fix2_is (i := 99) (by omega), fix2_is (i := 257) (by omega), ?_, by simp [mat, fixM2], by simp [mat, fixM2]⟩
        show at_ fixT2 257 = at_ fixT2 98 ++ at_ fixT2 99
        rw [fixT2_b, fixT2_lo (by omega), fixT2_lo (by omega)]
        rfl, fun i j hij hj => by
      have h2 : i = 0 ∧ j = 1 := by simp [fixM2] at hj; omega
      obtain ⟨rfl, rfl⟩ := h2
      simp [mat, fixM2, Both, Ahead]⟩, fun i hi => by
      rw [fixT2_len] at hi
      rcases two58 hi with h | rfl | rfl
      · left; rw [fixT2_lo h, one_sz]; omega
      · exact .inr ⟨0, by simp [fixM2], by simp [mat, fixM2]⟩
      · exact .inr ⟨1, by simp [fixM2], by simp [mat, fixM2]⟩, ⟨by simp, fun i hi => by simp at hi, fun i j _ hj => by simp at hj⟩⟩
theorem fixR2_size (i : Nat) (hi : i < fixR2.length) : (tat fixR2 i).size ≤ 2 := by
  rw [fixR2_len] at hi
  rcases two58 hi with h | rfl | rfl
  · rw [(fixR2_lo h).1, one_sz]; omega
  · rw [fixR2_a.1, ab_sz]; omega
  · rw [fixR2_b.1, bc_sz]; omega
theorem fix2_run1 : Pr.run fixM2 [97, 98, 99] = [256, 99] := by decide
theorem fix2_run2 : Pr.run fixM2 [98, 99, 98] = [257, 98] := by decide
/-- The rows of tokens behind the bytes. -/
def lR (xs : Toks) (n : Nat) : Sps := bR 256 ++ (List.range n).map (fun i => (at_ xs i, 256 + (i : Int)))
theorem lR_succ (xs : Toks) (n : Nat) : lR xs (n + 1) = lR xs n ++ [(at_ xs n, 256 + (n : Int))] := by simp [lR, List.range_succ]
theorem lR_fix : lR [ab, bc] 2 = fixR2 := rfl
theorem lR_len (xs : Toks) (n : Nat) : (lR xs n).length = 256 + n := by simp [lR, bR_len]
end Vc
end Go.Proofs.Ytfgbpjajkmfkoaa

/-
  Walk of the reference's Letters, where there are no names.
-/
namespace Go.Proofs.Ytfgbpjajkmfkoaa
open Go.RowKit Go.Maps
set_option linter.unusedVariables false

theorem Try.infoRowL : (Try.prog.info? 68).map (fun i => (i.zero, i.size, i.bytes)) = some (some (.agg #[.string ⟨#[]⟩, .int .i64 0]), 2, 24) := by kernel_rfl
/-- A block of slices holds no text and no number. -/
theorem bx3_not {W : World} {R : Nat} {t : TypeId} {a1 a2 a3 : Option Addr} {n1 n2 n3 c1 c2 c3 : Nat} (h : Bx3 W R t (.slice a1 n1 c1) (.slice a2 n2 c2) (.slice a3 n3 c3)) {b j : Nat} {v : Value} (hc : W.cell? ⟨b, j, none⟩ = some v) (hv : ∀ a n c, v ≠ .slice a n c) : b ≠ R := by
  rintro rfl
  simp only [World.cell?, show W.heap[b]? = _ from h] at hc
  match j with
  | 0 => exact hv a1 n1 c1 (Option.some.inj hc).symm
  | 1 => exact hv a2 n2 c2 (Option.some.inj hc).symm
  | 2 => exact hv a3 n3 c3 (Option.some.inj hc).symm
  | j + 3 => simp at hc
theorem three_cell {W : World} {R b o : Nat} (hne : b ≠ R) (x y z : Value) : (three W R x y z).cell? ⟨b, o, none⟩ = W.cell? ⟨b, o, none⟩ := by
  have h : (three W R x y z).heap[b]? = W.heap[b]? := by
    unfold three
    rw [Below.heap_setCell _ _ _ _ (by simpa using hne), Below.heap_setCell _ _ _ _ (by simpa using hne), Below.heap_setCell _ _ _ _ (by simpa using hne)]
  exact World.cell?_of_block h
theorem Vo.three {W : World} {R : Nat} {t : TypeId} {a1 a2 a3 : Option Addr} {n1 n2 n3 c1 c2 c3 : Nat} (X : Bx3 W R t (.slice a1 n1 c1) (.slice a2 n2 c2) (.slice a3 n3 c3)) {a : Option Addr} {n c : Nat} {am : Option Addr} {nm cm : Nat} {az : Option Addr} {ns cs : Nat} {ts : List ByteArray} {ms : List Mg4} {sp : List (ByteArray × Int)}
    (h : Vo W a n c am nm cm az ns cs ts ms sp) (x y z : Value) : Vo (three W R x y z) a n c am nm cm az ns cs ts ms sp := by
  have hs : (Go.Proofs.Ytfgbpjajkmfkoaa.three W R x y z).heap.size = W.heap.size := by simp [Go.Proofs.Ytfgbpjajkmfkoaa.three, World.setCell]
  refine ⟨⟨h.T.len, h.T.le, h.T.mx, h.T.nil, fun h0 => ?_⟩, ⟨h.M.len, h.M.le, h.M.mx, h.M.nil, fun h0 => ?_⟩, ⟨h.S.len, h.S.le, h.S.mx, h.S.nil, fun h0 => ?_⟩⟩
  · obtain ⟨b, off, e, hb, hc⟩ := h.T.at' h0
    refine ⟨b, off, e, by rw [hs]; exact hb, fun i hi => ?_⟩
    rw [three_cell (bx3_not X (hc 0 h0) (by intro a n c h; cases h))]
    exact hc i hi
  · obtain ⟨b, off, e, hb, hc⟩ := h.M.at' h0
    have hne := bx3_not X (hc 0 h0).1 (by intro a n c h; cases h)
    refine ⟨b, off, e, by rw [hs]; exact hb, fun i hi => ?_⟩
    rw [three_cell hne, three_cell hne, three_cell hne, three_cell hne]
    exact hc i hi
  · obtain ⟨b, off, e, hb, hc⟩ := h.S.at' h0
    have hne := bx3_not X (hc 0 h0).1 (by intro a n c h; cases h)
    refine ⟨b, off, e, by rw [hs]; exact hb, fun i hi => ?_⟩
    rw [three_cell hne, three_cell hne]
    exact hc i hi

set_option maxRecDepth 100000 in
set_option maxHeartbeats 6400000 in
theorem letters_calls {w : World} {a : Option Addr} {n c : Nat} {xs : Vc.Toks} (V : Ts w a n c xs) (hn : n ≤ 700) :
    Calls Try.prog 23 #[.slice a n c, .slice none 0 0] w fun e w' => RfOut (Vc.lR xs n) [] e w' ∧ Below w.heap.size w w' := by
  obtain ⟨i0, hi, hz0, hz1, hz2⟩ := info_parts Try.infoRowL
  have hl := V.len
  have TW := hid V
  clear V
  have B0 := hid (((Below.refl w.heap.size w).alloc (Nat.le_refl _) (.cells #[.slice none 0 0, .slice none 0 0, .slice none 0 0] 26)).alloc (by simp) (.cells #[] 68))
  have R0 := hid ((Bx3.new w 26 (.slice none 0 0) (.slice none 0 0) (.slice none 0 0)).alloc (.cells #[] 68))
  obtain ⟨M, hM⟩ : ∃ M, w.heap.size + 1 = M := ⟨_, rfl⟩
  have O0 := hid (show ((w.alloc (.cells #[.slice none 0 0, .slice none 0 0, .slice none 0 0] 26)).alloc (.cells #[] 68)).ownsRow M 68 2 (.slice (some ⟨w.heap.size + 1, 0, none⟩) 0 0) 0 (rv (Vc.bR 0)) from own_empty (w.heap.size + 1) (by simp) (by simp; omega))
  have HM := hid hM
  clear hM
  go_enter Try.func23, Try.ntmps23
  go_wp2_with fail
  go_loopg [6, 7] 256 (fun r mvv iv wr => ∃ (j : Nat) (v : Value), r = 256 - j ∧ v = mvv ∧ iv = .int .i64 (j : Int) ∧ j ≤ 256 ∧ Hid (wr.ownsRow M 68 2 v j (rv (Vc.bR j))) ∧ Hid (Bx3 wr w.heap.size 26 (.slice none 0 0) (.slice none 0 0) (.slice none 0 0)) ∧ Hid (Below w.heap.size w wr))
  case atStart => exact ⟨0, _, rfl, rfl, rfl, by omega, O0, R0, B0⟩
  case round =>
    clear O0 R0 B0
    obtain ⟨j, v, rfl, rfl, rfl, hj, HO, HR, HB⟩ := hrel
    have hRl := HR.out.lt
    by_cases hlt : j < 256
    · have l0 : (0 : Int) ≤ j := by omega
      have l1 : (j : Int) < 256 := by omega
      have l2 : IntKind.i64.wrap ((j : Int) + 1) = j + 1 := i64_in (by omega) (by omega)
      have e3 : IntKind.u8.wrap (j : Int) = j := u8_in' (by omega) (by omega)
      have cv := cv_one wr j
      have hb0 := HB.out.size
      obtain ⟨S, hS⟩ : ∃ S, Vc.one j = S := ⟨_, rfl⟩
      rw [hS] at cv
      have HSS := hid hS
      clear hS
      have OB := hid (own_at HO.out)
      have B2 := hid ((HB.out.alloc HB.out.size (.cells #[.int .u8 (j : Int)] 5)).alloc (by simp; omega) (.cells #[.string S, .int .i64 (j : Int)] 68))
      have R2 := hid ((HR.out.alloc (.cells #[.int .u8 (j : Int)] 5)).alloc (.cells #[.string S, .int .i64 (j : Int)] 68))
      go_wp2_with (at_builtin; refine wpList_append_src rfl _ _ 65 rfl M 68 i0 (.agg #[.string ⟨#[]⟩, .int .i64 0]) 2 24 Try.underlying65 hi hz0 hz1 hz2 rfl (by decide) _ j _ rfl ((HO.out.alloc _).alloc _) (some ⟨wr.heap.size + 1, 0, none⟩) 1 1 [.string S, .int .i64 (j : Int)] rfl (by simpa using src_row (w := wr.alloc (.cells #[.int .u8 (j : Int)] 5)) S (j : Int) 68) (by unfold maxLen; omega) (by omega) (by have := HM.out; simp; omega) ?_; intro v3 w3 own gr loc; have O3 := hid own; have G3 := hid gr; clear own gr loc)
      go_roundg (256 - (j + 1))
      case measure => omega
      case rel =>
        refine ⟨j + 1, v3, rfl, rfl, by go_num, by omega, hid ?_, hid (R2.out.kept G3.out (fun e => by have := OB.out _ e.symm; have := HM.out; omega)), hid (B2.out.grown G3.out (by simp; omega) (fun k hk => by have := OB.out k hk; have := HM.out; omega))⟩
        rw [Vc.bR_succ, HSS.out, ← rv_snoc]
        exact O3.out
    · obtain rfl : j = 256 := by omega
      have k1 : ¬ (((256 : Nat) : Int) < 256) := by omega
      go_wp2_with fail
      go_loopg [6, 27] n (fun r mvv iv wr => ∃ (j : Nat) (v : Value), r = n - j ∧ v = mvv ∧ iv = .int .i64 (j : Int) ∧ j ≤ n ∧ Hid (wr.ownsRow M 68 2 v (256 + j) (rv (Vc.lR xs j))) ∧ Hid (Bx3 wr w.heap.size 26 (.slice none 0 0) (.slice none 0 0) (.slice none 0 0)) ∧ Hid (Below w.heap.size w wr))
      case atStart => exact ⟨0, _, rfl, rfl, rfl, by omega, hid (by have := HO.out; simpa [Vc.lR] using this), HR, HB⟩
      case round =>
        clear HO HR HB hRl
        obtain ⟨j, v, rfl, rfl, rfl, hj, HO, HR, HB⟩ := hrel
        have hRl := HR.out.lt
        have OB := hid (own_at HO.out)
        by_cases hlt : j < n
        · have l0 : (0 : Int) ≤ j := by omega
          have l1 : (j : Int) < n := by omega
          have l2 : IntKind.i64.wrap ((j : Int) + 1) = j + 1 := i64_in (by omega) (by omega)
          have l3 : IntKind.i64.wrap (256 + (j : Int)) = 256 + j := i64_in (by omega) (by omega)
          obtain ⟨b, off, rfl, hbl, hc⟩ := (TW.out.below HB.out).at' (by omega)
          have q1 := hc j hlt
          have hb0 := HB.out.size
          obtain ⟨S, hS⟩ : ∃ S, at_ xs j = S := ⟨_, rfl⟩
          rw [hS] at q1
          have HSS := hid hS
          clear hS hc
          have B2 := hid (HB.out.alloc HB.out.size (.cells #[.string S, .int .i64 (256 + (j : Int))] 68))
          have R2 := hid (HR.out.alloc (.cells #[.string S, .int .i64 (256 + (j : Int))] 68))
          go_wp2_with (at_builtin; refine wpList_append_src rfl _ _ 65 rfl M 68 i0 (.agg #[.string ⟨#[]⟩, .int .i64 0]) 2 24 Try.underlying65 hi hz0 hz1 hz2 rfl (by decide) _ (256 + j) _ rfl (HO.out.alloc _) (some ⟨wr.heap.size, 0, none⟩) 1 1 [.string S, .int .i64 (256 + (j : Int))] rfl (src_row S (256 + (j : Int)) 68) (by unfold maxLen; omega) (by omega) (by have := HM.out; simp; omega) ?_; intro v3 w3 own gr loc; have O3 := hid own; have G3 := hid gr; clear own gr loc)
          go_roundg (n - (j + 1))
          case measure => omega
          case rel =>
            refine ⟨j + 1, v3, rfl, rfl, by go_num, by omega, hid ?_, hid (R2.out.kept G3.out (fun e => by have := OB.out _ e.symm; have := HM.out; omega)), hid (B2.out.grown G3.out (by simp; omega) (fun k hk => by have := OB.out k hk; have := HM.out; omega))⟩
            rw [Vc.lR_succ, HSS.out, ← rv_snoc]
            exact O3.out
        · obtain rfl : j = n := by omega
          have k1 : ¬ ((j : Int) < j) := by omega
          have R2 := hid (HR.out.alloc (.cells #[] 55))
          have B2 := hid (HB.out.alloc HB.out.size (.cells #[] 55))
          have O2 := hid (HO.out.alloc (.cells #[] 55))
          clear HR HB HO
          obtain ⟨av, cv, rfl, hV⟩ := Rw.ofOwn O2.out
          have V2 := hid hV
          have Q2 := hid (Rw.none (wr.alloc (.cells #[] 55)) 0 (some ⟨wr.heap.size, 0, none⟩) (Nat.zero_le _) (fun h => by cases h))
          clear hV O2 OB
          go_wp2_with fail
          obtain ⟨w2, hw2⟩ : ∃ W, wr.alloc (.cells #[] 55) = W := ⟨_, rfl⟩
          rw [hw2] at R2 B2 V2 Q2
          try rw [hw2]
          clear hw2
          go_loopg [9, 44] 0 (fun r sv iv w' => r = 0 ∧ sv = .slice (some ⟨wr.heap.size, 0, none⟩) 0 0 ∧ iv = .int .i64 0 ∧ w2 = w')
          case atStart => exact ⟨rfl, rfl, rfl, rfl⟩
          case round =>
            obtain ⟨rfl, rfl, rfl, rfl⟩ := hrel
            go_wp2_with fail
            refine (rfromRows_calls V2.out Q2.out (by omega) (by omega) (fun i hi => by cases hi)).mono ?_
            rintro e w5 ⟨E5, b5⟩
            have R5 := hid (R2.out.below b5 R2.out.lt)
            have B5 := hid (B2.out.trans (b5.mono B2.out.size))
            clear b5 V2 Q2 R2 B2
            rcases E5 with ⟨ts, ms, sp', a', n', c', am, nm, cm, az, ns, cs, hF, rfl, hV⟩ | ⟨hno, rfl⟩
            · have HF := hid hF
              have V9 := hid (hV.three R5.out (.slice a' n' c') (.slice am nm cm) (.slice az ns cs))
              clear hF hV
              obtain ⟨y1, y2, y3⟩ := ret_three R5.out (.slice a' n' c') (.slice am nm cm) (.slice az ns cs)
              have BB := hid (below_three B5.out (R := w.heap.size) (Nat.le_refl _) (.slice a' n' c') (.slice am nm cm) (.slice az ns cs))
              have p0 := R5.out.cell0
              have q0 := R5.out.fr 0
              have u1 := y1.cell1
              have v1 := y1.fr 1
              have u2 := y2.cell2
              have v2 := y2.fr 2
              have r0 := y3.cell0
              have r1 := y3.cell1
              have r2 := y3.cell2
              unfold three at r0 r1 r2
              clear y1 y2 y3
              go_wp2_with fail
              refine bodyPost_ret (v := .tuple #[.agg #[.slice a' n' c', .slice am nm cm, .slice az ns cs], .bool true]) (by simp [results, Try.results23, go_sem, r0, r1, r2]) rfl ?_
              exact ⟨.inl ⟨ts, ms, sp', _, _, _, am, nm, cm, az, ns, cs, HF.out, rfl, V9.out⟩, BB.out⟩
            · have HF := hid hno
              clear hno
              obtain ⟨y1, y2, y3⟩ := ret_three R5.out (.slice none 0 0) (.slice none 0 0) (.slice none 0 0)
              have BB := hid (below_three B5.out (R := w.heap.size) (Nat.le_refl _) (.slice none 0 0) (.slice none 0 0) (.slice none 0 0))
              have p0 := R5.out.cell0
              have q0 := R5.out.fr 0
              have u1 := y1.cell1
              have v1 := y1.fr 1
              have u2 := y2.cell2
              have v2 := y2.fr 2
              have r0 := y3.cell0
              have r1 := y3.cell1
              have r2 := y3.cell2
              unfold three at r0 r1 r2
              clear y1 y2 y3
              go_wp2_with fail
              refine bodyPost_ret (v := .tuple #[.agg #[.slice none 0 0, .slice none 0 0, .slice none 0 0], .bool false]) (by simp [results, Try.results23, go_sem, r0, r1, r2]) rfl ?_
              exact ⟨.inr ⟨HF.out, rfl⟩, BB.out⟩
end Go.Proofs.Ytfgbpjajkmfkoaa

/-
  Walks of the law's fixed and great.
-/
namespace Go.Proofs.Ytfgbpjajkmfkoaa
open Go.RowKit Go.Maps
set_option linter.unusedVariables false

theorem may_wf {ts : Vc.Toks} {ms : List Mg4} {sp : Vc.Sps} (h : Vc.May ts ms sp) : ∀ k, k < ms.length → (Lit.int .i64 (mat ms k).2.2.1).wf = true := fun k hk => is_wf h.T (h.M.ok k hk).2.2.1

theorem fits_run {ms : List Mg4} (hF : ∀ k, k < ms.length → (Lit.int .i64 (mat ms k).2.2.1).wf = true) {xs : Pr.Row} (h : Fits xs) : Fits (Pr.run ms xs) :=
  Pr.run_ind (ms := ms) (P := fun xs r => Fits xs → Fits r) (fun _ _ h => h) (fun xs ys hs k hx => k (fits_step hF hx hs)) _ xs (Nat.le_refl _) h

set_option maxRecDepth 100000 in
set_option maxHeartbeats 6400000 in
theorem fixed_calls (w : World) : Calls Try.prog 9 #[] w fun e w' => e = .returned (.bool true) ∧ Below w.heap.size w w' := by
  have B0 := hid ((Below.refl w.heap.size w).alloc (Nat.le_refl _) (.cells #[.string { data := #[97, 98] }, .string { data := #[98, 99] }] 9))
  have T0 := hid (show Ts (w.alloc (.cells #[.string { data := #[97, 98] }, .string { data := #[98, 99] }] 9)) (some ⟨w.heap.size, 0, none⟩) 2 2 [Vc.ab, Vc.bc] from ⟨rfl, Nat.le_refl _, by decide, (fun e => (by cases e)), fun _ => ⟨w.heap.size, 0, rfl, by simp, fun i hi => by
    have h := heap_alloc_new w (Obj.cells #[.string { data := #[97, 98] }, .string { data := #[98, 99] }] 9)
    simp only [World.cell?, h]
    match i, hi with
    | 0, _ => rfl
    | 1, _ => rfl⟩⟩)
  go_enter Try.func9, Try.ntmps9
  go_wp2_with fail
  refine (letters_calls T0.out (by omega)).mono ?_
  rintro e w1 ⟨E1, b1⟩
  have B1 := hid (B0.out.trans (b1.mono B0.out.size))
  clear b1 B0 T0
  rcases E1 with ⟨ts, ms, sp', a, n, c, am, nm, cm, az, ns, cs, hF, rfl, hV⟩ | ⟨hno, _⟩
  rotate_left
  · exact absurd ⟨_, _, _, (show Vc.FromIs (Vc.lR [Vc.ab, Vc.bc] 2) [] _ _ _ from Vc.fix2_from)⟩ hno
  obtain ⟨rfl, rfl, rfl⟩ := (show Vc.FromIs (Vc.lR [Vc.ab, Vc.bc] 2) [] _ _ _ from Vc.fix2_from).one hF
  clear hF
  have hnl := hV.T.len
  have B2 := hid (B1.out.alloc B1.out.size (.cells #[.slice a n c, .slice am nm cm, .slice az ns cs] 26))
  have V2 := hid (hV.below ((Below.refl _ w1).alloc (Nat.le_refl _) (.cells #[.slice a n c, .slice am nm cm, .slice az ns cs] 26)))
  have X2 := hid (Bx3.new w1 26 (.slice a n c) (.slice am nm cm) (.slice az ns cs))
  have HN := hid hnl
  clear hV B1 hnl
  have x0 := X2.out.cell0
  have x1 := X2.out.cell1
  have x2 := X2.out.cell2
  go_wp2_with fail
  refine (new_calls V2.out (fun i hi => Nat.le_trans (Vc.fixT2_sz (by rw [← HN.out, Vc.fixT2_len] at hi; exact hi)).2 (by decide))).mono ?_
  rintro e w3 ⟨E3, b3⟩
  have B3 := hid (B2.out.trans (b3.mono B2.out.size))
  clear b3 B2 V2 X2 x0 x1 x2
  rcases E3 with ⟨hM, B, rfl, hT⟩ | ⟨hM, _⟩
  rotate_left
  · exact absurd Vc.fix2_from.may hM
  have HT := hid hT
  have HM := hid hM
  clear hT hM
  have B4 := hid (B3.out.alloc B3.out.size (.cells #[.int .i64 97, .int .i64 98, .int .i64 99] 3))
  have c4 := (Below.refl _ w3).alloc (Nat.le_refl _) (.cells #[.int .i64 97, .int .i64 98, .int .i64 99] 3)
  have T4 := hid (HT.out.below c4)
  have I4 := hid (Ir.block (xs := [97, 98, 99]) (n := 3) rfl (heap_alloc_new w3 (.cells #[.int .i64 97, .int .i64 98, .int .i64 99] 3)) (by decide))
  have F4 := hid (show Fits [97, 98, 99] from fun x hx => by
    simp at hx
    rcases hx with rfl | rfl | rfl <;> decide)
  clear c4
  go_wp2_with fail
  refine (run_calls T4.out I4.out F4.out (may_wf HM.out) (by omega)).mono ?_
  rintro e w5 ⟨⟨a5, m5, c5, rfl, I5⟩, b5⟩
  have B5 := hid (B4.out.trans (b5.mono B4.out.size))
  have T5 := hid (T4.out.below b5)
  have J5 := hid I5
  clear b5 I5 B4 T4 I4 F4
  have B6 := hid (B5.out.alloc B5.out.size (.cells #[.int .i64 256, .int .i64 99] 3))
  have c6 := (Below.refl _ w5).alloc (Nat.le_refl _) (.cells #[.int .i64 256, .int .i64 99] 3)
  have T6 := hid (T5.out.below c6)
  have J6 := hid (J5.out.below c6)
  have I6 := hid (Ir.block (xs := [256, 99]) (n := 2) rfl (heap_alloc_new w5 (.cells #[.int .i64 256, .int .i64 99] 3)) (by decide))
  clear c6 B5 T5 J5
  go_wp2_with fail
  refine (says_is (b := true) (same_calls J6.out I6.out) (by simp [Vc.fix2_run1])).mono ?_
  rintro e w7 ⟨rfl, b7⟩
  have B7 := hid (B6.out.trans (b7.mono B6.out.size))
  have T7 := hid (T6.out.below b7)
  clear b7 B6 T6 J6 I6
  have B8 := hid (B7.out.alloc B7.out.size (.cells #[.int .i64 98, .int .i64 99, .int .i64 98] 3))
  have c8 := (Below.refl _ w7).alloc (Nat.le_refl _) (.cells #[.int .i64 98, .int .i64 99, .int .i64 98] 3)
  have T8 := hid (T7.out.below c8)
  have I8 := hid (Ir.block (xs := [98, 99, 98]) (n := 3) rfl (heap_alloc_new w7 (.cells #[.int .i64 98, .int .i64 99, .int .i64 98] 3)) (by decide))
  have F8 := hid (show Fits [98, 99, 98] from fun x hx => by
    simp at hx
    rcases hx with rfl | rfl | rfl <;> decide)
  clear c8 B7 T7
  go_wp2_with fail
  refine (run_calls T8.out I8.out F8.out (may_wf HM.out) (by omega)).mono ?_
  rintro e w9 ⟨⟨a9, m9, c9, rfl, I9⟩, b9⟩
  have B9 := hid (B8.out.trans (b9.mono B8.out.size))
  have J9 := hid I9
  clear b9 I9 B8 T8 I8 F8
  have B10 := hid (B9.out.alloc B9.out.size (.cells #[.int .i64 257, .int .i64 98] 3))
  have c10 := (Below.refl _ w9).alloc (Nat.le_refl _) (.cells #[.int .i64 257, .int .i64 98] 3)
  have J10 := hid (J9.out.below c10)
  have I10 := hid (Ir.block (xs := [257, 98]) (n := 2) rfl (heap_alloc_new w9 (.cells #[.int .i64 257, .int .i64 98] 3)) (by decide))
  clear c10 B9 J9
  go_wp2_with fail
  refine (says_is (b := true) (same_calls J10.out I10.out) (by simp [Vc.fix2_run2])).mono ?_
  rintro e w11 ⟨rfl, b11⟩
  have B11 := hid (B10.out.trans (b11.mono B10.out.size))
  clear b11
  go_wp2_with fail
  go_ret
  exact ⟨rfl, B11.out⟩

/-- No more than is gone through. -/
def Pr.Small (ts : Vc.Toks) (ms : List Mg4) (sp : Vc.Sps) (n : Nat) : Prop := Vc.Small ts ms sp ∧ n ≤ 60
set_option maxRecDepth 100000 in
set_option maxHeartbeats 3200000 in
theorem great_calls {w : World} {a am az ar : Option Addr} {n c nm cm ns cs m d : Nat} {ts : Vc.Toks} {ms : List Mg4} {sp : Vc.Sps} (V : Vo w a n c am nm cm az ns cs ts ms sp) :
    Calls Try.prog 14 #[.agg #[.slice a n c, .slice am nm cm, .slice az ns cs], .slice ar m d] w fun e w' => Says e (¬ Pr.Small ts ms sp m) ∧ Below w.heap.size w w' := by
  have B0 := hid ((Below.refl w.heap.size w).alloc (Nat.le_refl _) (.cells #[.slice a n c, .slice am nm cm, .slice az ns cs] 26))
  have X0 := hid (Bx3.new w 26 (.slice a n c) (.slice am nm cm) (.slice az ns cs))
  have V0 := hid (V.below B0.out)
  clear V
  have x0 := X0.out.cell0
  have x1 := X0.out.cell1
  have x2 := X0.out.cell2
  go_enter Try.func14, Try.ntmps14
  go_wp2_with fail
  refine (rgreat_calls V0.out).mono ?_
  rintro e w1 ⟨⟨g, rfl, hg⟩, b1⟩
  have HG := hid hg
  have B1 := hid (B0.out.trans (b1.mono B0.out.size))
  clear hg b1
  cases g
  · have hS : Vc.Small ts ms sp := Classical.byContradiction fun h => absurd (HG.out.2 h) (by decide)
    have HS := hid hS
    clear hS
    by_cases hm : (60 : Int) < m
    · have HN := hid (show ¬ Pr.Small ts ms sp m from fun h => by have := h.2; omega)
      go_wp2_with fail
      go_ret
      exact ⟨Says.yes HN.out, B1.out⟩
    · have hd : decide ((60 : Int) < m) = false := decide_eq_false hm
      have HN := hid (show ¬ ¬ Pr.Small ts ms sp m from fun h => h ⟨HS.out, by omega⟩)
      go_wp2_with fail
      go_ret
      exact ⟨Says.no HN.out, B1.out⟩
  · have HN := hid (show ¬ Pr.Small ts ms sp m from fun h => HG.out.1 rfl h.1)
    go_wp2_with fail
    go_ret
    exact ⟨Says.yes HN.out, B1.out⟩
end Go.Proofs.Ytfgbpjajkmfkoaa

/-
  Two merges compared as structs.
-/
namespace Go.Proofs.Ytfgbpjajkmfkoaa
open Go.RowKit Go.Maps
set_option linter.unusedVariables false

theorem Try.eqGuardMg : Try.prog.eqGuardType Try.prog.depth 34 = false := by kernel_rfl
theorem Try.stoodMg : Try.prog.stoodInHeld 34 = false := by kernel_rfl
theorem Try.fieldsMg : Try.prog.underlying 34 = some (.struct (Try.prog.fieldsOf 34)) := by kernel_rfl
theorem Try.eqMg (x0 x1 x2 x3 : Int) (w : World) : (binOp .eql 34 (.agg #[.int .i64 x0, .int .i64 x1, .int .i64 x2, .int .i64 x3]) (.agg #[.int .i64 x0, .int .i64 x1, .int .i64 x2, .int .i64 x3])).run Try.prog w = .ok (.bool true) w := by
  rw [run_eql_struct, run_equalIn_agg w _ _ _ _ Try.fieldsMg Try.stoodMg]
  simp [Program.fieldsOf, Try.underlying34, Try.underlying3, Op.eqFields, go_sem]
end Go.Proofs.Ytfgbpjajkmfkoaa
