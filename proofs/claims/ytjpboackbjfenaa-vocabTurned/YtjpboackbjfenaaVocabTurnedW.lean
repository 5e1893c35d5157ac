/-
  The walk of the law VocabTurned.
-/
import Derived.Test.YtjpboackbjfenaaVcF
import Derived.Test.YtjpboackbjfenaaVlG
import Derived.Test.YtjpboackbjfenaaVrS
namespace Go.Proofs.Ytjpboackbjfenaa
open Go.RowKit Go.Maps
set_option linter.unusedVariables false

theorem rev_at {xs : Vc.Sps} {i : Nat} (h : i < xs.length) : tat xs.reverse i = tat xs (xs.length - 1 - i) ∧ kat xs.reverse i = kat xs (xs.length - 1 - i) := by
  unfold tat kat
  rw [List.getD_eq_getElem?_getD, List.getD_eq_getElem?_getD, List.getElem?_reverse h]
  exact ⟨rfl, rfl⟩
theorem rev_take {xs : Vc.Sps} {j : Nat} (h : j < xs.length) : xs.reverse.take (j + 1) = xs.reverse.take j ++ [(tat xs (xs.length - 1 - j), kat xs (xs.length - 1 - j))] := by
  have h1 : j < xs.reverse.length := by simpa using h
  rw [List.take_succ_eq_append_getElem h1]
  have h2 : xs.length - 1 - j < xs.length := by omega
  simp [tat, kat, h2]
theorem ranks_rev {rs sp : Vc.Sps} (h : Vc.Ranks rs sp) : Vc.Ranks rs.reverse sp.reverse := by
  refine ⟨fun i hi => ?_, fun i hi => ?_, fun i j hij hj => ?_⟩
  · have hi' : i < rs.length := by simpa using hi
    rw [(rev_at hi').2]; exact h.r _ (by omega)
  · have hi' : i < sp.length := by simpa using hi
    rw [(rev_at hi').2]; exact h.s _ (by omega)
  · have hj' : j < rs.length := by simpa using hj
    rw [(rev_at (show i < rs.length by omega)).2, (rev_at hj').2]
    exact fun e => h.ap (rs.length - 1 - j) (rs.length - 1 - i) (by omega) (by omega) e.symm
theorem sz_rev {rs sp : Vc.Sps} {N : Nat} (h : Vc.Sz rs sp N) : Vc.Sz rs.reverse sp.reverse N := by
  refine ⟨fun i hi => ?_, fun i hi => ?_, ?_⟩
  · have hi' : i < rs.length := by simpa using hi
    rw [(rev_at hi').2]; exact h.r _ (by omega)
  · have hi' : i < sp.length := by simpa using hi
    rw [(rev_at hi').2]; exact h.s _ (by omega)
  · rcases h.top with h1 | ⟨i, hi, he⟩ | ⟨i, hi, he⟩
    · exact .inl h1
    · refine .inr (.inl ⟨rs.length - 1 - i, by simp; omega, ?_⟩)
      rw [(rev_at (show rs.length - 1 - i < rs.length by omega)).2, show rs.length - 1 - (rs.length - 1 - i) = i by omega]; exact he
    · refine .inr (.inr ⟨sp.length - 1 - i, by simp; omega, ?_⟩)
      rw [(rev_at (show sp.length - 1 - i < sp.length by omega)).2, show sp.length - 1 - (sp.length - 1 - i) = i by omega]; exact he
theorem tok_rev {rs sp : Vc.Sps} {ts : Vc.Toks} (h : Vc.TokIs rs sp ts) : Vc.TokIs rs.reverse sp.reverse ts := by
  refine ⟨sz_rev h.sz, fun i hi => ?_, fun k hk hno => h.none k hk (fun i hi => ?_)⟩
  · have hi' : i < rs.length := by simpa using hi
    rw [(rev_at hi').2, (rev_at hi').1]; exact h.there _ (by omega)
  · have := hno (rs.length - 1 - i) (by simp; omega)
    rwa [(rev_at (show rs.length - 1 - i < rs.length by omega)).2, show rs.length - 1 - (rs.length - 1 - i) = i by omega] at this
theorem from_rev {rs sp : Vc.Sps} {ts : Vc.Toks} {ms : List Mg4} {sp' : Vc.Sps} (h : Vc.FromIs rs sp ts ms sp') : Vc.FromIs rs.reverse sp.reverse ts ms sp' :=
  ⟨ranks_rev h.ranks, tok_rev h.tok, h.cuts, ⟨h.sps.perm.trans (List.reverse_perm sp).symm, h.sps.up⟩, h.may⟩
theorem noFrom_rev {rs sp : Vc.Sps} (h : Vc.NoFrom rs sp) : Vc.NoFrom rs.reverse sp.reverse := by
  rintro ⟨ts, ms, sp', k⟩
  have := from_rev k
  rw [List.reverse_reverse, List.reverse_reverse] at this
  exact h ⟨_, _, _, this⟩

set_option maxRecDepth 100000 in
set_option maxHeartbeats 6400000 in
theorem vocabTurned_calls {w : World} {a az : Option Addr} {n c ns cs : Nat} {rs sp : Vc.Sps} (V : Rw w a n c rs) (Q : Rw w az ns cs sp) :
    Calls Try.prog 8 #[.slice a n c, .slice az ns cs] w fun e w' => e = .returned (.bool true) ∧ Below w.heap.size w w' := by
  have hl := V.len
  have hls := Q.len
  have VW := hid V
  have QW := hid Q
  clear V Q
  obtain ⟨i0, hi, hz0, hz1, hz2⟩ := info_parts Try.infoRow
  obtain ⟨j0, gi, gz0, gz1, gz2⟩ := info_parts Try.infoSp
  go_enter Try.func8, Try.ntmps8
  go_wp2_with fail
  refine (lgreat_calls VW.out (Pw.none w 0 none (Nat.zero_le _) (fun _ => rfl)) QW.out).mono ?_
  rintro e w1 ⟨⟨g, rfl, hg⟩, b1⟩
  have B1 := hid b1
  have HG := hid hg
  clear hg b1
  cases g
  rotate_left
  · go_wp2_with fail
    refine (fixed_calls _).mono ?_
    rintro e w2 ⟨rfl, b2⟩
    have B2 := hid (B1.out.trans (b2.mono B1.out.size))
    clear b2
    go_wp2_with fail
    go_ret
    exact ⟨rfl, B2.out⟩
  have HSm := hid (show Vc.SmallR rs [] sp from Classical.byContradiction fun h => absurd (HG.out.2 h) (by decide))
  clear HG
  have hn : n ≤ 400 := by have := HSm.out.r; omega
  have hns : ns ≤ 20 := by have := HSm.out.s; omega
  obtain ⟨M, hM⟩ : ∃ M, w.heap.size = M := ⟨_, rfl⟩
  go_wp2_with fail
  go_loopg [5, 19] n (fun r mvv iv wr => ∃ (j : Nat) (v : Value), r = n - j ∧ v = mvv ∧ iv = .int .i64 (j : Int) ∧ j ≤ n ∧ Hid (wr.ownsRow M 32 2 v j (rv (rs.reverse.take j))) ∧ Hid (Below w.heap.size w wr))
  case atStart => exact ⟨0, _, rfl, rfl, rfl, by omega, hid ⟨by simp [rv], .inl ⟨rfl, rfl⟩⟩, B1⟩
  case round =>
    obtain ⟨j, v, rfl, rfl, rfl, hj, HO, HB⟩ := hrel
    have hbs := HB.out.size
    rw [hM] at hbs
    by_cases hlt : j < n
    · have l0 : (0 : Int) ≤ j := by omega
      have l1 : (j : Int) < n := by omega
      have l2 : IntKind.i64.wrap ((j : Int) + 1) = j + 1 := i64_in (by omega) (by omega)
      obtain ⟨q, hq⟩ : ∃ q, n - 1 - j = q := ⟨_, rfl⟩
      have l3 : IntKind.i64.wrap ((n : Int) - 1) = n - 1 := i64_in (by omega) (by omega)
      have l4 : IntKind.i64.wrap ((n : Int) - 1 - j) = (q : Int) := by rw [i64_in (by omega) (by omega)]; omega
      have q0 : (0 : Int) ≤ q := by omega
      have q1 : (q : Int) < n := by omega
      obtain ⟨b0, off, rfl, hbl, hc⟩ := (VW.out.below HB.out).at' (by omega)
      obtain ⟨p1, p2⟩ := hc q (by omega)
      obtain ⟨t, ht⟩ : ∃ t, tat rs q = t := ⟨_, rfl⟩
      obtain ⟨x, hx⟩ : ∃ t, kat rs q = t := ⟨_, rfl⟩
      rw [ht] at p1
      rw [hx] at p2
      have HT := hid ht
      have HX := hid hx
      have HQ := hid hq
      clear hc ht hx hq
      have OB := hid (show ∀ q, v.ownBlock = some q → M ≤ q from fun q hq => by
        obtain ⟨_, ho⟩ := HO.out
        rcases ho with ⟨h1, _⟩ | ⟨g, cap, cur, h1, hb, _⟩
        · rw [h1] at hq; simp [Value.ownBlock] at hq
        · rw [h1] at hq; simp [Value.ownBlock] at hq; omega)
      have B2 := hid (HB.out.alloc HB.out.size (.cells #[.string t, .int .i64 x] 32))
      go_wp2_with (at_builtin; refine wpList_append_src rfl _ _ 29 rfl M 32 i0 (.agg #[.string ⟨#[]⟩, .int .i64 0]) 2 24 Try.underlying29 hi hz0 hz1 hz2 rfl (by decide) _ j _ rfl (HO.out.alloc _) (some ⟨wr.heap.size, 0, none⟩) 1 1 [.string t, .int .i64 x] rfl (src_row t x _) (by unfold maxLen; omega) (by omega) (by simp; omega) ?_; intro v3 w3 own gr loc; have O3 := hid own; have G3 := hid gr; clear own gr loc)
      go_roundg (n - (j + 1))
      case measure => omega
      case rel =>
        refine ⟨j + 1, v3, rfl, rfl, by go_num, by omega, hid ?_, hid (B2.out.grown G3.out (by simp; omega) (fun q hq => by have := OB.out q hq; omega))⟩
        rw [rev_take (by omega), hl, HQ.out, HT.out, HX.out, ← rv_snoc]
        exact O3.out
    · obtain rfl : j = n := by omega
      have k1 : ¬ ((j : Int) < j) := by omega
      obtain ⟨va, vc, rfl, vr⟩ := Rw.ofOwn HO.out
      rw [List.take_of_length_le (by simp; omega)] at vr
      have VR := hid vr
      clear vr HO
      obtain ⟨M2, hM2⟩ : ∃ M2, wr.heap.size = M2 := ⟨_, rfl⟩
      obtain ⟨W, hW⟩ : ∃ W, wr = W := ⟨_, rfl⟩
      go_wp2_with fail
      rw [hW] at VR HB hM2
      try rw [hW]
      clear hW
      have h12 : w.heap.size ≤ M2 := by rw [← hM2]; exact HB.out.size
      go_loopg [6, 36] ns (fun r mvv iv wr => ∃ (j : Nat) (v : Value), r = ns - j ∧ v = mvv ∧ iv = .int .i64 (j : Int) ∧ j ≤ ns ∧ Hid (wr.ownsRow M2 49 2 v j (rv (sp.reverse.take j))) ∧ Hid (Below M2 W wr))
      case atStart => exact ⟨0, _, rfl, rfl, rfl, by omega, hid ⟨by simp [rv], .inl ⟨rfl, rfl⟩⟩, hid (Below.refl _ _)⟩
      case round =>
        obtain ⟨k, v, rfl, rfl, rfl, hk, HO, HB1⟩ := hrel
        have hbs1 := HB1.out.size
        rw [hM2] at hbs1
        have HBw := hid (HB.out.trans (HB1.out.mono h12))
        by_cases hlt : k < ns
        · have l0 : (0 : Int) ≤ k := by omega
          have l1 : (k : Int) < ns := by omega
          have l2 : IntKind.i64.wrap ((k : Int) + 1) = k + 1 := i64_in (by omega) (by omega)
          obtain ⟨q, hq⟩ : ∃ q, ns - 1 - k = q := ⟨_, rfl⟩
          have l3 : IntKind.i64.wrap ((ns : Int) - 1) = ns - 1 := i64_in (by omega) (by omega)
          have l4 : IntKind.i64.wrap ((ns : Int) - 1 - k) = (q : Int) := by rw [i64_in (by omega) (by omega)]; omega
          have q0 : (0 : Int) ≤ q := by omega
          have q1 : (q : Int) < ns := by omega
          obtain ⟨b0, off, rfl, hbl, hc⟩ := (QW.out.below HBw.out).at' (by omega)
          obtain ⟨p1, p2⟩ := hc q (by omega)
          obtain ⟨t, ht⟩ : ∃ t, tat sp q = t := ⟨_, rfl⟩
          obtain ⟨x, hx⟩ : ∃ t, kat sp q = t := ⟨_, rfl⟩
          rw [ht] at p1
          rw [hx] at p2
          have HT := hid ht
          have HX := hid hx
          have HQ := hid hq
          clear hc ht hx hq
          have OB := hid (show ∀ q, v.ownBlock = some q → M2 ≤ q from fun q hq => by
            obtain ⟨_, ho⟩ := HO.out
            rcases ho with ⟨h1, _⟩ | ⟨g, cap, cur, h1, hb, _⟩
            · rw [h1] at hq; simp [Value.ownBlock] at hq
            · rw [h1] at hq; simp [Value.ownBlock] at hq; omega)
          have B2 := hid (HB1.out.alloc hbs1 (.cells #[.string t, .int .i64 x] 49))
          go_wp2_with (at_builtin; refine wpList_append_src rfl _ _ 24 rfl M2 49 j0 (.agg #[.string ⟨#[]⟩, .int .i64 0]) 2 24 Try.underlying24 gi gz0 gz1 gz2 rfl (by decide) _ k _ rfl (HO.out.alloc _) (some ⟨wr.heap.size, 0, none⟩) 1 1 [.string t, .int .i64 x] rfl (src_row t x _) (by unfold maxLen; omega) (by omega) (by simp; omega) ?_; intro v3 w3 own gr loc; have O3 := hid own; have G3 := hid gr; clear own gr loc)
          go_roundg (ns - (k + 1))
          case measure => omega
          case rel =>
            refine ⟨k + 1, v3, rfl, rfl, by go_num, by omega, hid ?_, hid (B2.out.grown G3.out (by simp; omega) (fun q hq => OB.out q hq))⟩
            rw [rev_take (by omega), hls, HQ.out, HT.out, HX.out, ← rv_snoc]
            exact O3.out
        · obtain rfl : k = ns := by omega
          have k1 : ¬ ((k : Int) < k) := by omega
          obtain ⟨ya, yc, rfl, yr⟩ := Rw.ofOwn HO.out
          rw [List.take_of_length_le (by simp; omega)] at yr
          have YR := hid yr
          have VR2 := hid (VR.out.below (hM2 ▸ HB1.out))
          clear yr HO VR
          go_wp2_with fail
          refine (fromRows_calls (VW.out.below HBw.out) (QW.out.below HBw.out) (fun i hi => Nat.le_trans (HSm.out.rz i hi) (by decide)) (by omega)).mono ?_
          rintro e w5 ⟨E5, b5⟩
          have B5 := hid (HBw.out.trans (b5.mono HBw.out.size))
          have VR5 := hid (VR2.out.below b5)
          have YR5 := hid (YR.out.below b5)
          clear b5
          rcases E5 with ⟨ts, ms, sp', ta, tn, tc, am, nm, cm, za, zn, zc, hF, _, rfl, hV⟩ | ⟨hno, rfl⟩
          · have HF := hid hF
            have htl := hV.T.len
            have hml := hV.M.len
            have hzl := hV.S.len
            have htn := hF.may.T.len
            have hmn := hF.may.M.len
            have hsn := hF.may.S.len
            have B6 := hid (B5.out.alloc B5.out.size (.cells #[.slice ta tn tc, .slice am nm cm, .slice za zn zc] 26))
            have b56 := (Below.refl _ w5).alloc (Nat.le_refl _) (.cells #[.slice ta tn tc, .slice am nm cm, .slice za zn zc] 26)
            have X6 := hid (Bx3.new w5 26 (.slice ta tn tc) (.slice am nm cm) (.slice za zn zc))
            have V6 := hid (hV.below b56)
            have VR6 := hid (VR5.out.below b56)
            have YR6 := hid (YR5.out.below b56)
            obtain ⟨K, hK⟩ : ∃ K, w5.heap.size = K := ⟨_, rfl⟩
            rw [hK] at X6
            clear hF hV b56
            go_wp2_with fail
            refine (fromRows_calls VR6.out YR6.out (fun i hi => by
              have hi' : i < rs.length := by simpa using hi
              rw [(rev_at hi').1]
              exact Nat.le_trans (HSm.out.rz _ (by omega)) (by decide)) (by omega)).mono ?_
            rintro e w7 ⟨E7, b7⟩
            have B7 := hid (B6.out.trans (b7.mono B6.out.size))
            have X7 := hid (X6.out.below b7 X6.out.lt)
            have V7 := hid (V6.out.below b7)
            clear b7 B6 X6 V6 VR6 YR6
            rcases E7 with ⟨ts2, ms2, sp2, ua, un, uc, bm, pm, dm, ya2, yn, yc2, hF2, _, rfl, hV2⟩ | ⟨hno, _⟩
            · obtain ⟨rfl, rfl, rfl⟩ := (from_rev HF.out).one hF2
              have b78 := (Below.refl _ w7).alloc (Nat.le_refl _) (.cells #[.slice ua un uc, .slice bm pm dm, .slice ya2 yn yc2] 26)
              have B8 := hid (B7.out.alloc B7.out.size (.cells #[.slice ua un uc, .slice bm pm dm, .slice ya2 yn yc2] 26))
              have X8 := hid (X7.out.alloc (.cells #[.slice ua un uc, .slice bm pm dm, .slice ya2 yn yc2] 26))
              have Y8 := hid (Bx3.new w7 26 (.slice ua un uc) (.slice bm pm dm) (.slice ya2 yn yc2))
              have V8 := hid (V7.out.below b78)
              have U8 := hid (hV2.below b78)
              clear hF2 hV2 b78
              go_wp2_with fail
              refine (fixed_calls _).mono ?_
              rintro e w9 ⟨rfl, b9⟩
              have B9 := hid (B8.out.trans (b9.mono B8.out.size))
              have X9 := hid (X8.out.below b9 X8.out.lt)
              have Y9 := hid (Y8.out.below b9 Y8.out.lt)
              have V9 := hid (V8.out.below b9)
              have U9 := hid (U8.out.below b9)
              clear b9 B8 X8 Y8 V8 U8
              have x0 := X9.out.cell0
              have x1 := X9.out.cell1
              have x2 := X9.out.cell2
              have y0 := Y9.out.cell0
              have y1 := Y9.out.cell1
              have y2 := Y9.out.cell2
              go_wp2_with fail
              refine (vsame_yes V9.out U9.out (by omega) (by omega) (by omega)).mono ?_
              rintro e w10 ⟨rfl, b10⟩
              have B10 := hid (B9.out.trans (b10.mono B9.out.size))
              clear b10
              go_wp2_with fail
              go_ret
              exact ⟨rfl, B10.out⟩
            · exact absurd ⟨_, _, _, from_rev HF.out⟩ hno
          · have HF := hid hno
            have B6 := hid (B5.out.alloc B5.out.size (.cells #[.slice none 0 0, .slice none 0 0, .slice none 0 0] 26))
            have b56 := (Below.refl _ w5).alloc (Nat.le_refl _) (.cells #[.slice none 0 0, .slice none 0 0, .slice none 0 0] 26)
            have X6 := hid (Bx3.new w5 26 (.slice none 0 0) (.slice none 0 0) (.slice none 0 0))
            have VR6 := hid (VR5.out.below b56)
            have YR6 := hid (YR5.out.below b56)
            obtain ⟨K, hK⟩ : ∃ K, w5.heap.size = K := ⟨_, rfl⟩
            rw [hK] at X6
            clear hno b56
            go_wp2_with fail
            refine (fromRows_calls VR6.out YR6.out (fun i hi => by
              have hi' : i < rs.length := by simpa using hi
              rw [(rev_at hi').1]
              exact Nat.le_trans (HSm.out.rz _ (by omega)) (by decide)) (by omega)).mono ?_
            rintro e w7 ⟨E7, b7⟩
            have B7 := hid (B6.out.trans (b7.mono B6.out.size))
            have X7 := hid (X6.out.below b7 X6.out.lt)
            clear b7 B6 X6 VR6 YR6
            rcases E7 with ⟨ts2, ms2, sp2, ua, un, uc, bm, pm, dm, ya2, yn, yc2, hF2, _, rfl, hV2⟩ | ⟨_, rfl⟩
            · exact absurd ⟨_, _, _, hF2⟩ (noFrom_rev HF.out)
            · have B8 := hid (B7.out.alloc B7.out.size (.cells #[.slice none 0 0, .slice none 0 0, .slice none 0 0] 26))
              have X8 := hid (X7.out.alloc (.cells #[.slice none 0 0, .slice none 0 0, .slice none 0 0] 26))
              have Y8 := hid (Bx3.new w7 26 (.slice none 0 0) (.slice none 0 0) (.slice none 0 0))
              go_wp2_with fail
              refine (fixed_calls _).mono ?_
              rintro e w9 ⟨rfl, b9⟩
              have B9 := hid (B8.out.trans (b9.mono B8.out.size))
              have X9 := hid (X8.out.below b9 X8.out.lt)
              have Y9 := hid (Y8.out.below b9 Y8.out.lt)
              have Vz := hid (show Vo w9 none 0 0 none 0 0 none 0 0 [] [] [] from ⟨⟨rfl, Nat.le_refl _, Nat.zero_le _, fun _ => ⟨rfl, rfl⟩, fun h => absurd h (by omega)⟩, Qw.none w9 0 none (Nat.zero_le _) (fun _ => rfl), Rw.none w9 0 none (Nat.zero_le _) (fun _ => rfl)⟩)
              clear b9 B8 X8 Y8
              have x0 := X9.out.cell0
              have x1 := X9.out.cell1
              have x2 := X9.out.cell2
              have y0 := Y9.out.cell0
              have y1 := Y9.out.cell1
              have y2 := Y9.out.cell2
              go_wp2_with fail
              refine (vsame_yes Vz.out Vz.out (by omega) (by omega) (by omega)).mono ?_
              rintro e w10 ⟨rfl, b10⟩
              have B10 := hid (B9.out.trans (b10.mono B9.out.size))
              clear b10
              go_wp2_with fail
              go_ret
              exact ⟨rfl, B10.out⟩
end Go.Proofs.Ytjpboackbjfenaa
