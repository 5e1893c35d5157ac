/-
  The walk of the law EncodeSame.
-/
import Derived.Test.YtcjakjmhghoilaaEnFd
import Derived.Test.YtcjakjmhghoilaaLotM
import Derived.Test.YtcjakjmhghoilaaLotR
import Derived.Deep.RegionHeld3
import Derived.Deep.RegionLaw
namespace Go.Proofs.Ytcjakjmhghoilaa
open Go.RowKit Go.Maps
set_option linter.unusedVariables false
open Pr (it)
/-- A row of empty texts that 'make' has just laid, as one of the call's own. -/
theorem own_made {w : World} (e : TypeId) (K : Nat) (hK : K ≤ maxLen) (o : Obj) : ((w.alloc (.cells (vr (fun _ => Value.string ⟨#[]⟩) K).toArray e)).alloc o).ownsRow w.heap.size e 1 (.slice (some ⟨w.heap.size, 0, none⟩) K K) K (tv (List.replicate K ⟨#[]⟩)) := by
  have e1 : vr (fun _ => Value.string ⟨#[]⟩) K = tv (List.replicate K ⟨#[]⟩) := by
    apply List.ext_getElem?
    intro i
    by_cases hi : i < K
    · simp [hi, vr, tv]
    · simp [hi, vr, tv]
  refine World.ownsRow.alloc ⟨by simp [tv], .inr ⟨w.heap.size, K, (vr (fun _ => Value.string ⟨#[]⟩) K).toArray, rfl, Nat.le_refl _, heap_alloc_new w _, Nat.le_refl _, hK, by simp [vr_length], ?_⟩⟩ o
  rw [e1]
  exact List.take_of_length_le (by simp [tv])
theorem take_sh (K : Int) (ms : List Mg4) {j : Nat} (h : j < ms.length) : (ms.take (j + 1)).map (Pr.shM K) = (ms.take j).map (Pr.shM K) ++ [Pr.shM K (mat ms j)] := by
  rw [List.take_add_one, List.map_append]
  congr 1
  simp [mat, h]
theorem src_merge' (w : World) (l r o d : Int) (ty : TypeId) {k : Nat} (hk : k = w.heap.size) : Src (w.alloc (.cells #[.int .i64 l, .int .i64 r, .int .i64 o, .int .i64 d] ty)) (some ⟨k, 0, none⟩) 1 1 4 [.int .i64 l, .int .i64 r, .int .i64 o, .int .i64 d] := by
  subst hk
  exact src_merge l r o d ty
theorem small_sh {K : Nat} {ts : Vc.Toks} {ms : List Mg4} {sp : Vc.Sps} (h : Vc.Small ts ms sp) (i : Nat) (hi : i < K + ts.length) : (at_ (Vc.shT K ts) i).size ≤ maxLen := by
  by_cases hk : i < K
  · rw [Vc.shT_low K ts hk]; exact Nat.zero_le _
  · obtain ⟨m, rfl⟩ : ∃ m, i = K + m := ⟨i - K, by omega⟩
    rw [Vc.shT_at]
    exact Nat.le_trans (h.tz m (by omega)) (by decide)
theorem bt_sh {K : Nat} {ts : Vc.Toks} (h : Vc.MayT ts) (h2 : Vc.MayT (Vc.shT K ts)) (b : UInt8) : Vc.bt (Vc.shT K ts) b = Vc.bt ts b + K := by
  obtain ⟨i, hi, e, hb⟩ := Vc.bt_num h b
  have hi2 : K + i < (Vc.shT K ts).length := by rw [Vc.shT_len]; omega
  have hz : (at_ (Vc.shT K ts) (K + i)).size ≠ 0 := by rw [Vc.shT_at, e, mk_size]; exact Nat.one_ne_zero
  have hn := Vc.num_at h2 hi2 hz
  rw [Vc.shT_at, e] at hn
  rw [hb]
  unfold Vc.bt
  rw [hn]
  show ((K + i : Nat) : Int) = _
  omega
set_option maxRecDepth 100000 in
set_option maxHeartbeats 12800000 in
theorem encodeSame_calls {w : World} {a am az ba : Option Addr} {n c nm cm ns cs bn bc : Nat} {f : Nat → Int} {ts : Vc.Toks} {ms : List Mg4} {sp : Vc.Sps} (V : Vo w a n c am nm cm az ns cs ts ms sp) (S : Sl w ba bn bc f) {gap : Int} (hat : 0 ≤ gap ∧ gap ≤ 255) :
    Calls Try.prog 8 #[.agg #[.slice a n c, .slice am nm cm, .slice az ns cs], .slice ba bn bc, .int .u8 gap] w fun e w' => e = .returned (.bool true) ∧ Below w.heap.size w w' := by
  have hl := V.T.len
  have hlm := V.M.len
  have B0 := hid ((Below.refl w.heap.size w).alloc (Nat.le_refl _) (.cells #[.slice a n c, .slice am nm cm, .slice az ns cs] 26))
  have X0 := hid (Bx3.new w 26 (.slice a n c) (.slice am nm cm) (.slice az ns cs))
  have V0 := hid (V.below B0.out)
  have S0 := hid (S.below B0.out)
  clear V S
  have x0 := X0.out.cell0
  have x1 := X0.out.cell1
  have x2 := X0.out.cell2
  go_enter Try.func8, Try.ntmps8
  go_wp2_with fail
  refine (rgreat_calls V0.out).mono ?_
  rintro e w1 ⟨⟨g, rfl, hg⟩, b1⟩
  have X1 := hid (X0.out.below b1 X0.out.lt)
  have V1 := hid (V0.out.below b1)
  have S1 := hid (S0.out.below b1)
  have B1 := hid (B0.out.trans (b1.mono B0.out.size))
  have HG := hid hg
  clear hg b1 X0 V0 B0 S0 x0 x1 x2
  cases g
  rotate_left
  · skip
    go_wp2_with fail
    refine (efixed_calls _).mono ?_
    rintro e wf ⟨rfl, bf⟩
    have BF := hid (B1.out.trans (bf.mono B1.out.size))
    clear bf
    go_wp2_with fail
    go_ret
    exact ⟨rfl, BF.out⟩
  have HSm := hid (show Vc.Small ts ms sp from Classical.byContradiction fun h => absurd (HG.out.2 h) (by decide))
  have hnm : nm ≤ 1000000 := by have := HSm.out.m; omega
  clear HG
  have x0 := X1.out.cell0
  have x1 := X1.out.cell1
  have x2 := X1.out.cell2
  by_cases hbig : 100 < bn
  · have k1 : ((100 : Int) < (bn : Int)) := by omega
    go_wp2_with fail
    refine (efixed_calls _).mono ?_
    rintro e wf ⟨rfl, bf⟩
    have BF := hid (B1.out.trans (bf.mono B1.out.size))
    clear bf
    go_wp2_with fail
    go_ret
    exact ⟨rfl, BF.out⟩
  have k1 : ¬ ((100 : Int) < (bn : Int)) := by omega
  go_wp2_with fail
  refine (rmay_calls V1.out (fun i hi => Nat.le_trans (HSm.out.sz i hi) (by decide))).mono ?_
  rintro e w2 ⟨⟨g, rfl, hg⟩, b2⟩
  have X2 := hid (X1.out.below b2 X1.out.lt)
  have V2 := hid (V1.out.below b2)
  have S2 := hid (S1.out.below b2)
  have B2 := hid (B1.out.trans (b2.mono B1.out.size))
  have HG := hid hg
  clear hg b2 X1 V1 B1 S1 x0 x1 x2
  cases g
  · skip
    go_wp2_with fail
    refine (efixed_calls _).mono ?_
    rintro e wf ⟨rfl, bf⟩
    have BF := hid (B2.out.trans (bf.mono B2.out.size))
    clear bf
    go_wp2_with fail
    go_ret
    exact ⟨rfl, BF.out⟩
  have HM := hid (HG.out.1 rfl)
  clear HG
  have x0 := X2.out.cell0
  have x1 := X2.out.cell1
  have x2 := X2.out.cell2
  obtain ⟨is, his, hs0, hs1, hs2⟩ := info_parts Try.infoSt
  obtain ⟨im, him, hm0, hm1, hm2⟩ := info_parts Try.infoMg
  have q3 : IntKind.i64.wrap gap = gap := i64_in (by omega) (by omega)
  have q5 : ¬ (100 : Int) = 0 := by omega
  obtain ⟨K, hK⟩ : ∃ K : Nat, gap % 100 = (K : Int) := ⟨(gap % 100).toNat, by omega⟩
  have hK100 : K < 100 := by omega
  have hn400 : n ≤ 400 := by have := HSm.out.t; omega
  have hcn := V2.out.T.le
  have hcx := V2.out.T.mx
  have hmk := fun w => run_make_vr (P := Try.prog) w (.string ⟨#[]⟩) 22 9 is Try.underlying22 his hs0 rfl hs1 (by omega) K (by omega)
  have C2 := hid (((Below.refl w2.heap.size w2).alloc (Nat.le_refl _) (.cells (vr (fun _ => Value.string ⟨#[]⟩) K).toArray 9)).alloc (by simp) (.cells #[.slice (some ⟨w2.heap.size, 0, none⟩) K K, .slice none 0 0, .slice none 0 0] 26))
  have y0 := (X2.out.below C2.out X2.out.lt).cell0
  have T2 := hid (V2.out.T.below C2.out)
  have P2 := hid (show Bx3 _ (w2.heap.size + 1) 26 (.slice (some ⟨w2.heap.size, 0, none⟩) K K) (.slice none 0 0) (.slice none 0 0) from by
    have h := Bx3.new (w2.alloc (.cells (vr (fun _ => Value.string ⟨#[]⟩) K).toArray 9)) 26 (.slice (some ⟨w2.heap.size, 0, none⟩) K K) (.slice none 0 0) (.slice none 0 0)
    rwa [show (w2.alloc (.cells (vr (fun _ => Value.string ⟨#[]⟩) K).toArray 9)).heap.size = w2.heap.size + 1 from by simp] at h)
  have O2 := hid (own_made (w := w2) 9 K (by unfold maxLen; omega) (.cells #[.slice (some ⟨w2.heap.size, 0, none⟩) K K, .slice none 0 0, .slice none 0 0] 26))
  have hmx : K + n ≤ maxLen := by unfold maxLen; omega
  clear x0 x1 x2
  go_wp2_with (at_builtin; refine wpList_append_src rfl _ _ 22 rfl w2.heap.size 9 is (.string ⟨#[]⟩) 1 16 Try.underlying22 his hs0 hs1 hs2 rfl (by decide) (.slice (some ⟨w2.heap.size, 0, none⟩) K K) K (tv (List.replicate K ⟨#[]⟩)) rfl O2.out a n c (tv ts) rfl T2.out.src hmx (by omega) (by simp; omega) ?_; intro v3 w3 ho3 hg3 hb3; have O3 := hid (show w3.ownsRow w2.heap.size 9 1 v3 (K + n) (tv (Vc.shT K ts)) from by unfold Vc.shT; rw [← tv_append]; exact ho3); obtain ⟨a3, c3, rfl, hT3⟩ := Ts.ofOwn O3.out; have hv3 : (Value.slice a3 (K + n) c3).ownBlock ≠ some (w2.heap.size + 1) := (by rcases hb3 with h | h <;> rw [h] <;> simp [Value.ownBlock]); have P3 := hid (P2.out.kept hg3 (by simp [Value.ownBlock])); have C3 := hid ((C2.out.grown hg3 (by simp; omega) (by simp [Value.ownBlock])).setCell (p := ⟨w2.heap.size + 1, 0, none⟩) (by simp) (.slice a3 (K + n) c3)); have P4 := hid (P3.out.set0 (.slice a3 (K + n) c3)); have O4 := hid (own_set (j := 0) O3.out hv3 (.slice a3 (K + n) c3)); have p0 := P3.out.cell0; have pf := P3.out.fr 0; have x1 := (X2.out.below C3.out X2.out.lt).cell1; clear ho3 hg3 hb3 y0 hT3)
  obtain ⟨w4, hw4⟩ : ∃ w4, w3.setCell ⟨w2.heap.size + 1, 0, none⟩ (.slice a3 (K + n) c3) = w4 := ⟨_, rfl⟩
  obtain ⟨nb, hnb⟩ : ∃ nb, w2.heap.size = nb := ⟨_, rfl⟩
  have HN := hid hnb
  have S4 := hid (World.ownsRow_nil w4 (nb + 2) 50 4)
  have hsz4 : nb + 2 ≤ w4.heap.size := by have := P4.out.lt; rw [hw4] at this; have h2 := C2.out.size; have h3 := C3.out.size; rw [hw4] at h3; simp at h2; omega
  rw [hw4] at P4 O4 C3 ⊢
  rw [hnb] at P4 O4 C3 hv3 ⊢
  clear hw4 hnb x1 p0 pf P3 O3 P2 O2 C2 T2 hmk
  go_loopg [46] nm (fun r kv wr => ∃ (j : Nat) (vm : Value), r = nm - j ∧ kv = .int .i64 (j : Int) ∧ j ≤ nm ∧ Hid (Bx3 wr (nb + 1) 26 (.slice a3 (K + n) c3) vm (.slice none 0 0)) ∧ Hid (wr.ownsRow nb 9 1 (.slice a3 (K + n) c3) (K + n) (tv (Vc.shT K ts))) ∧ Hid (wr.ownsRow (nb + 2) 50 4 vm j (mv ((ms.take j).map (Pr.shM K)))) ∧ Hid (Below nb w2 wr) ∧ nb + 2 ≤ wr.heap.size)
  case atStart => exact ⟨0, _, rfl, rfl, by omega, P4, O4, S4, C3, hsz4⟩
  case round =>
    clear P4 O4 S4 C3 hsz4
    obtain ⟨j, vm, rfl, rfl, hj, HP, HO, HS, HB, hsz⟩ := hrel
    obtain ⟨avm, cvm, rfl, hqv⟩ := Qw.ofOwn HS.out
    clear hqv
    have HV2 := hid (V2.out.below (show Below w2.heap.size w2 wr from by rw [HN.out]; exact HB.out))
    by_cases hlt : j < nm
    · have l0 : (0 : Int) ≤ j := by omega
      have l1 : (j : Int) < nm := by omega
      have l2 : IntKind.i64.wrap ((j : Int) + 1) = j + 1 := i64_in (by omega) (by omega)
      obtain ⟨b1, o1, rfl, hb1, hc⟩ := HV2.out.M.at' (by omega)
      obtain ⟨p0, p1, p2, p3⟩ := hc j hlt
      obtain ⟨g1, g2, g3, _⟩ := HM.out.M.ok j (by omega)
      have HX := hid (take_sh K ms (j := j) (by omega))
      obtain ⟨x, hx⟩ : ∃ x, mat ms j = x := ⟨_, rfl⟩
      obtain ⟨z0, z1, z2, z3⟩ := x
      rw [hx] at p0 p1 p2 p3 g1 g2 g3 HX
      dsimp only at p0 p1 p2 p3 g1 g2 g3
      have g10 : (0 : Int) ≤ z0 := g1.1
      have g11 : z0 < ts.length := g1.2.1
      have g20 : (0 : Int) ≤ z1 := g2.1
      have g21 : z1 < ts.length := g2.2.1
      have g30 : (0 : Int) ≤ z2 := g3.1
      have g31 : z2 < ts.length := g3.2.1
      have e1 : IntKind.i64.wrap (z0 + K) = z0 + K := i64_in (by omega) (by omega)
      have e2 : IntKind.i64.wrap (z1 + K) = z1 + K := i64_in (by omega) (by omega)
      have e3 : IntKind.i64.wrap (z2 + K) = z2 + K := i64_in (by omega) (by omega)
      have X1 := hid (Bx4.new wr 50 (.int .i64 z0) (.int .i64 z1) (.int .i64 z2) (.int .i64 z3))
      have P1 := hid (HP.out.alloc (.cells #[.int .i64 z0, .int .i64 z1, .int .i64 z2, .int .i64 z3] 50))
      have y0 := X1.out.cell0
      have y1 := X1.out.cell1
      have y2 := X1.out.cell2
      have y3 := X1.out.cell3
      have q1 := P1.out.cell1
      clear hc hx g1 g2 g3
      go_wp2_with (at_builtin; refine wpList_append_src rfl _ _ 23 rfl (nb + 2) 50 im (.agg #[.int .i64 0, .int .i64 0, .int .i64 0, .int .i64 0]) 4 32 Try.underlying23 him hm0 hm1 hm2 rfl (by decide) (.slice avm j cvm) j (mv ((ms.take j).map (Pr.shM K))) rfl ((HS.out.alloc _).alloc _) (some ⟨wr.heap.size + 1, 0, none⟩) 1 1 [.int .i64 (z0 + K), .int .i64 (z1 + K), .int .i64 (z2 + K), .int .i64 z3] rfl (src_merge' (wr.alloc (.cells #[.int .i64 z0, .int .i64 z1, .int .i64 z2, .int .i64 z3] 50)) _ _ _ _ _ (by simp)) (by unfold maxLen; omega) (by omega) (by simp; omega) ?_; intro v5 w5 ho5 hg5 hb5; rw [mv_snoc] at ho5; obtain ⟨a5, c5, rfl, hq5⟩ := Qw.ofOwn ho5; have P5 := hid ((P1.out.alloc (.cells #[.int .i64 (z0 + K), .int .i64 (z1 + K), .int .i64 (z2 + K), .int .i64 z3] 50)).kept hg5 (fun e => by have := (HS.out.lt _ e.symm).1; omega)); have O5 := hid (((HO.out.alloc (.cells #[.int .i64 z0, .int .i64 z1, .int .i64 z2, .int .i64 z3] 50)).alloc (.cells #[.int .i64 (z0 + K), .int .i64 (z1 + K), .int .i64 (z2 + K), .int .i64 z3] 50)).kept hg5 (own_apart HO.out HS.out (by decide))); have S5 := hid ho5; have G5 := hid hg5; have p5 := P5.out.cell1; have f5 := P5.out.fr 1; clear hq5 ho5 hg5 hb5)
      have P6 := hid (P5.out.set1 (.slice a5 (j + 1) c5))
      have O6 := hid (own_set (j := 1) O5.out hv3 (.slice a5 (j + 1) c5))
      have S6 := hid (show (w5.setCell ⟨nb + 1, 1, none⟩ (.slice a5 (j + 1) c5)).ownsRow (nb + 2) 50 4 (.slice a5 (j + 1) c5) (j + 1) (mv ((ms.take (j + 1)).map (Pr.shM K))) from by rw [HX.out]; exact own_set S5.out (own_block S5.out (by omega)) _)
      have B6 := hid ((((HB.out.alloc (by omega) (.cells #[.int .i64 z0, .int .i64 z1, .int .i64 z2, .int .i64 z3] 50)).alloc (by simp; omega) (.cells #[.int .i64 (z0 + K), .int .i64 (z1 + K), .int .i64 (z2 + K), .int .i64 z3] 50)).grown G5.out (by simp; omega) (fun k e => by have := (HS.out.lt k e).1; omega)).setCell (p := ⟨nb + 1, 1, none⟩) (by show nb ≤ nb + 1; omega) (.slice a5 (j + 1) c5))
      have sz6 : nb + 2 ≤ (w5.setCell ⟨nb + 1, 1, none⟩ (.slice a5 (j + 1) c5)).heap.size := by have := G5.out.size; simp [World.setCell] at this ⊢; omega
      clear P5 O5 S5 G5 p5 f5 q1 P1 X1
      go_roundg (nm - (j + 1))
      case measure => omega
      case rel => exact ⟨j + 1, _, rfl, by go_num, by omega, P6, O6, S6, B6, sz6⟩
    · have l1 : ¬ (j : Int) < nm := by omega
      obtain rfl : j = nm := by omega
      have HVW := hid (show Vo wr a3 (K + n) c3 avm j cvm none 0 0 (Vc.shT K ts) (ms.map (Pr.shM K)) [] from ⟨Ts.ofOwn' HO.out, by
        have h := Qw.ofOwn' HS.out
        rwa [List.take_of_length_le (by omega)] at h, Rw.none wr 0 none (by decide) (fun _ => rfl)⟩)
      have HMW := hid (Vc.may_sh (k := K) HM.out (by omega))
      have HX2 := hid (X2.out.below (show Below w2.heap.size w2 wr from by rw [HN.out]; exact HB.out) X2.out.lt)
      have HS2 := hid (S2.out.below (show Below w2.heap.size w2 wr from by rw [HN.out]; exact HB.out))
      have HB2 := hid (B2.out.trans ((show Below w2.heap.size w2 wr from by rw [HN.out]; exact HB.out).mono B2.out.size))
      clear HO HS HB X2 S2 B2 V2 hv3 HN
      have x0 := HX2.out.cell0
      have x1 := HX2.out.cell1
      have x2 := HX2.out.cell2
      go_wp2_with fail
      refine (enew_calls HV2.out (fun i hi => Nat.le_trans (HSm.out.tz i (by omega)) (by decide))).mono ?_
      rintro e w6 ⟨E6, b6⟩
      have P6 := hid (HP.out.below b6 HP.out.lt)
      have V6 := hid (HVW.out.below b6)
      have S6 := hid (HS2.out.below b6)
      have B6 := hid (HB2.out.trans (b6.mono HB2.out.size))
      clear b6 HX2 HV2 HS2 HB2 HVW HP x0 x1 x2
      rcases E6 with ⟨_, C, rfl, hC⟩ | ⟨hM, _⟩
      rotate_left
      · exact absurd HM.out hM
      have C6 := hid hC
      clear hC
      have p0 := P6.out.cell0
      have p1 := P6.out.cell1
      have p2 := P6.out.cell2
      go_wp2_with fail
      refine (enew_calls V6.out (fun i hi => small_sh HSm.out i (by omega))).mono ?_
      rintro e w7 ⟨E7, b7⟩
      have S7 := hid (S6.out.below b7)
      have C7 := hid (C6.out.below b7)
      have B7 := hid (B6.out.trans (b7.mono B6.out.size))
      clear b7 P6 V6 S6 B6 C6 p0 p1 p2
      rcases E7 with ⟨_, D, rfl, hD⟩ | ⟨hM, _⟩
      rotate_left
      · exact absurd HMW.out hM
      have D7 := hid hD
      clear hD
      have D0 := hid ((Below.refl w7.heap.size w7).drew)
      go_wp2_with fail
      refine (eenc_calls C7.out S7.out (by omega)).mono ?_
      rintro e w8 ⟨⟨a8, n8, c8, rfl, i8⟩, b8⟩
      have B8 := hid (B7.out.trans (b8.mono B7.out.size))
      have S8 := hid (S7.out.below b8)
      have D8 := hid (D7.out.below b8)
      have I8 := hid i8
      clear b8 i8 S7 B7 C7 D7 D0
      go_wp2_with fail
      refine (eenc_calls D8.out S8.out (by omega)).mono ?_
      rintro e w9 ⟨⟨a9, n9, c9, rfl, i9⟩, b9⟩
      have hsh : Pr.enc (ms.map (Pr.shM K)) (Vc.bt (Vc.shT K ts)) (by_ (str f bn)) = Pr.shX K (Pr.enc ms (Vc.bt ts) (by_ (str f bn))) := by
        rw [show Vc.bt (Vc.shT K ts) = fun b => Vc.bt ts b + K from funext fun b => bt_sh HM.out.T HMW.out.T b]
        exact Pr.enc_sh K ms _ _
      rw [hsh] at i9
      have htk := (Pr.enc_cat HM.out.M (Vc.bytN_of HM.out.T) (by_ (str f bn))).1
      have hle := Pr.enc_len (ms := ms) (f := Vc.bt ts) (by_ (str f bn))
      rw [by_length, str_size] at hle
      obtain ⟨xs, hxs⟩ : ∃ xs, Pr.enc ms (Vc.bt ts) (by_ (str f bn)) = xs := ⟨_, rfl⟩
      rw [hxs] at i9 I8 htk hle
      have HTK := hid htk
      have B9 := hid (B8.out.trans (b9.mono B8.out.size))
      have I9 := hid (I8.out.below b9)
      have J9 := hid i9
      have hl8 := I8.out.len
      obtain rfl : n9 = n8 := by rw [← i9.len, Pr.shX_len, hl8]
      clear b9 i9 S8 B8 D8 I8 hsh hxs htk
      go_wp2_with fail
      go_loopg [100] n9 (fun r kv wr => ∃ i : Nat, r = n9 - i ∧ i ≤ n9 ∧ kv = .int .i64 (i : Int) ∧ Hid (Below w9.heap.size w9 wr))
      case atStart => exact ⟨0, rfl, by omega, rfl, hid (Below.refl _ w9)⟩
      case round =>
        obtain ⟨i, rfl, hi, rfl, HR⟩ := hrel
        by_cases hlt2 : i < n9
        · have k0 : (0 : Int) ≤ i := by omega
          have k2 : (i : Int) < n9 := by omega
          have k3 : IntKind.i64.wrap ((i : Int) + 1) = i + 1 := i64_in (by omega) (by omega)
          obtain ⟨b1, o1, rfl, _, hc1⟩ := (I9.out.below HR.out).at' (by omega)
          obtain ⟨b2, o2, rfl, _, hc2⟩ := (J9.out.below HR.out).at' (by omega)
          have p1 := hc1 i hlt2
          have p2 := hc2 i hlt2
          have hx := HTK.out _ (Pr.it_mem (xs := xs) (i := i) (by omega))
          rw [Pr.it_shX K (by omega)] at p2
          obtain ⟨x, hx2⟩ : ∃ x, it xs i = x := ⟨_, rfl⟩
          rw [hx2] at p1 p2 hx
          have hx0 := hx.1
          have hx1 := hx.2.1
          have k4 : IntKind.i64.wrap (x + K) = x + K := i64_in (by omega) (by omega)
          clear hc1 hc2 hx hx2
          go_wp2_with fail
          go_quiet (fail)
          have R1 := hid (below_drewN HR.out nq)
          go_wp2_with fail
          go_roundg (n9 - (i + 1))
          case measure => omega
          case rel => exact ⟨i + 1, rfl, by omega, by go_num, R1⟩
        · have k2 : ¬ (i : Int) < n9 := by omega
          go_wp2_with fail
          refine (efixed_calls _).mono ?_
          rintro e wf ⟨rfl, bf⟩
          have B10 := B9.out.trans (HR.out.mono B9.out.size)
          have BF := hid (B10.trans (bf.mono B10.size))
          clear bf
          go_wp2_with fail
          go_ret
          exact ⟨rfl, BF.out⟩
end Go.Proofs.Ytcjakjmhghoilaa
