/-
  The walk of the law VocabThere.
-/
import Derived.Test.YtjpboackbjfenaaVcF
import Derived.Test.YtjpboackbjfenaaVlG
import Derived.Lib.QuietBelow
import Derived.Deep.QuietTactic
import Derived.BigQuiet
namespace Go.Proofs.Ytjpboackbjfenaa
open Go.RowKit Go.Maps
set_option linter.unusedVariables false

/-- What Bytes answers at a row's rank. -/
theorem from_bytes {rs sp : Vc.Sps} {ts : Vc.Toks} {ms : List Mg4} {sp' : Vc.Sps} (h : Vc.FromIs rs sp ts ms sp') {j : Nat} (hj : j < rs.length) {e : Ending} (k : ByOut ts (kat rs j) e) :
    ((tat rs j).size ≠ 0 ∧ e = .returned (.tuple #[.string (tat rs j), .bool true])) ∨ (tat rs j = ⟨#[]⟩ ∧ e = .returned (.tuple #[.string ⟨#[]⟩, .bool false])) := by
  have h1 := h.tok.there j hj
  rcases k with ⟨hi, rfl⟩ | ⟨hi, rfl⟩
  · left
    refine ⟨by rw [← h1]; exact hi.2.2, ?_⟩
    rw [← h1]; rfl
  · right
    refine ⟨?_, rfl⟩
    by_cases hz : (tat rs j).size = 0
    · exact ba_nil hz
    · refine absurd ⟨(h.ranks.r j hj).1, ?_, by rw [h1]; exact hz⟩ hi
      have := h.tok.sz.r j hj
      omega
theorem from_of {rs sp : Vc.Sps} {ts : Vc.Toks} {ms : List Mg4} {sp' : Vc.Sps} (h : Vc.FromIs rs sp ts ms sp') {j : Nat} (hj : j < rs.length) (hz : (tat rs j).size ≠ 0) {r : Int} (k : Vc.OfIs ts (tat rs j) r) : r = kat rs j := by
  have h1 := h.tok.there j hj
  have h0 := (h.ranks.r j hj).1
  have h2 := h.tok.sz.r j hj
  rcases k with ⟨k0, _⟩ | ⟨_, ⟨i, rfl, hi, he, _⟩ | ⟨_, k⟩⟩
  · exact absurd k0 hz
  · have := h.may.T.apart i (kat rs j).toNat hi (by omega) (by rw [he]; exact hz) (by rw [he, h1])
    omega
  · exact absurd h1 (k _ (by omega))
theorem from_special {rs sp : Vc.Sps} {ts : Vc.Toks} {ms : List Mg4} {sp' : Vc.Sps} (h : Vc.FromIs rs sp ts ms sp') {j : Nat} (hj : j < sp.length) : ∃ i, i < sp'.length ∧ tat sp' i = tat sp j ∧ kat sp' i = kat sp j := by
  have h1 := h.sps.perm.mem_iff.2 (row_mem hj)
  obtain ⟨i, hi, e1, e2⟩ := mem_row h1
  exact ⟨i, hi, e1, e2⟩
theorem from_name {rs sp : Vc.Sps} {ts : Vc.Toks} {ms : List Mg4} {sp' : Vc.Sps} (h : Vc.FromIs rs sp ts ms sp') {j : Nat} (hj : j < sp.length) {e : Ending} (k : NmOut sp' (kat sp j) e) : e = .returned (.tuple #[.string (tat sp j), .bool true]) := by
  obtain ⟨i, hi, e1, e2⟩ := from_special h hj
  rcases k with ⟨q, k1, k2, k3, rfl⟩ | ⟨k1, _⟩
  · rcases Nat.lt_trichotomy i q with g | g | g
    · exact absurd e2 (k3 i g)
    · rw [← g, e1]
    · exact absurd (k2.trans e2.symm) (h.may.S.both q i g hi).2
  · exact absurd e2 (k1 i hi)
theorem from_id {rs sp : Vc.Sps} {ts : Vc.Toks} {ms : List Mg4} {sp' : Vc.Sps} (h : Vc.FromIs rs sp ts ms sp') {j : Nat} (hj : j < sp.length) {r : Int} (k : Vc.IdIs sp' (tat sp j) r) : r = kat sp j := by
  obtain ⟨i, hi, e1, e2⟩ := from_special h hj
  rcases k with ⟨q, k1, k2, k3, rfl⟩ | ⟨k1, _⟩
  · rcases Nat.lt_trichotomy i q with g | g | g
    · exact absurd e1 (k3 i g)
    · rw [← g, e2]
    · have := (h.may.S.both q i g hi).1
      rw [k2, e1] at this
      exact absurd this (Vc.nlt_irrefl _)
  · exact absurd e1 (k1 i hi)

set_option maxRecDepth 100000 in
set_option maxHeartbeats 6400000 in
theorem vocabThere_calls {w : World} {a az : Option Addr} {n c ns cs : Nat} {rs sp : Vc.Sps} (V : Rw w a n c rs) (Q : Rw w az ns cs sp) :
    Calls Try.prog 7 #[.slice a n c, .slice az ns cs] w fun e w' => e = .returned (.bool true) ∧ Below w.heap.size w w' := by
  have hl := V.len
  have hls := Q.len
  have VW := hid V
  have QW := hid Q
  clear V Q
  go_enter Try.func7, Try.ntmps7
  go_wp2_with fail
  refine (lgreat_calls VW.out (Pw.none w 0 none (Nat.zero_le _) (fun _ => rfl)) QW.out).mono ?_
  rintro e w1 ⟨⟨g, rfl, hg⟩, b1⟩
  have B1 := hid b1
  have HG := hid hg
  clear hg b1
  cases g
  rotate_left
  · go_wp2_with fail
    refine (fixed_calls _).mono ?_
    rintro e w2 ⟨rfl, b2⟩
    have B2 := hid (B1.out.trans (b2.mono B1.out.size))
    clear b2
    go_wp2_with fail
    go_ret
    exact ⟨rfl, B2.out⟩
  have HSm := hid (show Vc.SmallR rs [] sp from Classical.byContradiction fun h => absurd (HG.out.2 h) (by decide))
  clear HG
  have hn : n ≤ 400 := by have := HSm.out.r; omega
  have hns : ns ≤ 20 := by have := HSm.out.s; omega
  go_wp2_with fail
  refine (fromRows_calls (VW.out.below B1.out) (QW.out.below B1.out) (fun i hi => Nat.le_trans (HSm.out.rz i hi) (by decide)) (by omega)).mono ?_
  rintro e w2 ⟨E2, b2⟩
  have B2 := hid (B1.out.trans (b2.mono B1.out.size))
  clear b2
  rcases E2 with ⟨ts, ms, sp', ta, tn, tc, am, nm, cm, za, zn, zc, hF, _, rfl, hV⟩ | ⟨hno, rfl⟩
  rotate_left
  · have X3 := hid (Bx3.new w2 26 (.slice none 0 0) (.slice none 0 0) (.slice none 0 0))
    have B3 := hid (B2.out.alloc B2.out.size (.cells #[.slice none 0 0, .slice none 0 0, .slice none 0 0] 26))
    clear hno
    go_wp2_with fail
    refine (fixed_calls _).mono ?_
    rintro e w3 ⟨rfl, b3⟩
    have X4 := hid (X3.out.below b3 X3.out.lt)
    have B4 := hid (B3.out.trans (b3.mono B3.out.size))
    clear b3
    have x0 := X4.out.cell0
    have x1 := X4.out.cell1
    have x2 := X4.out.cell2
    go_wp2_with fail
    go_ret
    exact ⟨rfl, B4.out⟩
  have HF := hid hF
  have htl := hV.T.len
  have hml := hV.M.len
  have hzl := hV.S.len
  have hpl := hF.sps.perm.length_eq
  have htn := hF.may.T.len
  have hmn := hF.may.M.len
  obtain ⟨K, hK⟩ : ∃ K, w2.heap.size = K := ⟨_, rfl⟩
  have X3 := hid (Bx3.new w2 26 (.slice ta tn tc) (.slice am nm cm) (.slice za zn zc))
  have B3 := hid (B2.out.alloc B2.out.size (.cells #[.slice ta tn tc, .slice am nm cm, .slice za zn zc] 26))
  have V3 := hid (hV.below ((Below.refl _ w2).alloc (Nat.le_refl _) (.cells #[.slice ta tn tc, .slice am nm cm, .slice za zn zc] 26)))
  rw [hK] at X3
  clear hF hV
  go_wp2_with fail
  try rw [hK]
  clear hK
  go_loopg [56] n (fun r iv wr => ∃ j : Nat, r = n - j ∧ j ≤ n ∧ iv = .int .i64 j ∧ Hid (Bx3 wr K 26 (.slice ta tn tc) (.slice am nm cm) (.slice za zn zc)) ∧ Hid (Vo wr ta tn tc am nm cm za zn zc ts ms sp') ∧ Hid (Below w.heap.size w wr))
  case atStart => exact ⟨0, rfl, by omega, rfl, X3, V3, B3⟩
  case round =>
    obtain ⟨j, rfl, hj, rfl, HX, HV, HB⟩ := hrel
    by_cases hlt : j < n
    · have l0 : (0 : Int) ≤ j := by omega
      have l1 : (j : Int) < n := by omega
      have l2 : IntKind.i64.wrap ((j : Int) + 1) = j + 1 := i64_in (by omega) (by omega)
      obtain ⟨b0, off, rfl, hbl, hc⟩ := (VW.out.below HB.out).at' (by omega)
      obtain ⟨q1, q2⟩ := hc j hlt
      obtain ⟨t, ht⟩ : ∃ t, tat rs j = t := ⟨_, rfl⟩
      obtain ⟨x, hx⟩ : ∃ t, kat rs j = t := ⟨_, rfl⟩
      rw [ht] at q1
      rw [hx] at q2
      have HT := hid ht
      have HXx := hid hx
      clear hc ht hx
      have X4 := hid (HX.out.alloc (.cells #[.string t, .int .i64 x] 32))
      have Y4 := hid (Bx2.new wr 32 (.string t) (.int .i64 x))
      have B4 := hid (HB.out.alloc HB.out.size (.cells #[.string t, .int .i64 x] 32))
      have V4 := hid (HV.out.below ((Below.refl _ wr).alloc (Nat.le_refl _) (.cells #[.string t, .int .i64 x] 32)))
      have x0 := X4.out.cell0
      have x1 := X4.out.cell1
      have x2 := X4.out.cell2
      go_wp2_with fail
      refine (bytes_calls V4.out.T x).mono ?_
      rintro e w5 ⟨E5, b5⟩
      have X5 := hid (X4.out.below b5 X4.out.lt)
      have Y5 := hid (Y4.out.below b5 Y4.out.lt)
      have V5 := hid (V4.out.below b5)
      have B5 := hid (B4.out.trans (b5.mono B4.out.size))
      clear b5 X4 Y4 V4 B4 x0 x1 x2
      have k0 := fun d os => cell_regrown X5.out.cell0 d os
      have k1 := fun d os => cell_regrown X5.out.cell1 d os
      have k2 := fun d os => cell_regrown X5.out.cell2 d os
      have r0 := fun d os => cell_regrown Y5.out.cell0 d os
      have r1 := fun d os => cell_regrown Y5.out.cell1 d os
      have tt : (t.toList == t.toList) = true := beq_self_eq_true _
      rw [← HXx.out] at E5
      have h5 := from_bytes HF.out (by omega) E5
      rw [HT.out] at h5
      clear E5
      rcases h5 with ⟨hz, rfl⟩ | ⟨hz, rfl⟩
      · have e1 := (ba_full hz).1
        have e3 := (ba_full hz).2
        have cO := fun d os => Calls.regrown_of ((of_calls (am := am) (az := za) (nm := nm) (cm := cm) (ns := zn) (cs := zc) (V5.out.T.below (below_regrown w5 d os)) t).mono fun e w' ⟨⟨r, h1, h2⟩, h3⟩ => (show e = .returned (.int .i64 x) ∧ _ from ⟨by rw [h1, ← HXx.out]; rw [← HT.out] at h2 hz; rw [from_of HF.out (by omega) hz h2], h3⟩))
        clear hz
        go_wp2_with fail
        refine wp_region_quiet_below (by kernel_rfl) (by kernel_rfl) ?_
        repeat (any_goals (first | go_big_quiet_step (exact cO _ _) | quiet_step (exact cO _ _)))
        refine wpQuiet_nil ?_
        intro _ hw'
        obtain ⟨⟨dq, osq⟩, hw''⟩ := hw'
        subst hw''
        clear k0 k1 k2 r0 r1 cO
        have X6 := hid (X5.out.below (below_regrown w5 dq osq) X5.out.lt)
        have V6 := hid (V5.out.below (below_regrown w5 dq osq))
        have B6 := hid (B5.out.trans ((below_regrown w5 dq osq).mono B5.out.size))
        go_wp2_with fail
        go_roundg (n - (j + 1))
        case measure => omega
        case rel => exact ⟨j + 1, rfl, by omega, by go_num, X6, V6, B6⟩
      · subst hz
        go_wp2_with fail
        refine wp_region_quiet_below (by kernel_rfl) (by kernel_rfl) ?_
        repeat (any_goals (first | go_big_quiet_step (fail) | quiet_step (fail)))
        refine wpQuiet_nil ?_
        intro _ hw'
        obtain ⟨⟨dq, osq⟩, hw''⟩ := hw'
        subst hw''
        clear k0 k1 k2 r0 r1
        have X6 := hid (X5.out.below (below_regrown w5 dq osq) X5.out.lt)
        have V6 := hid (V5.out.below (below_regrown w5 dq osq))
        have B6 := hid (B5.out.trans ((below_regrown w5 dq osq).mono B5.out.size))
        go_wp2_with fail
        go_roundg (n - (j + 1))
        case measure => omega
        case rel => exact ⟨j + 1, rfl, by omega, by go_num, X6, V6, B6⟩
    · have l1 : ¬ (j : Int) < n := by omega
      go_wp2_with fail
      go_loopg [92] ns (fun r iv wr => ∃ k : Nat, r = ns - k ∧ k ≤ ns ∧ iv = .int .i64 k ∧ Hid (Bx3 wr K 26 (.slice ta tn tc) (.slice am nm cm) (.slice za zn zc)) ∧ Hid (Vo wr ta tn tc am nm cm za zn zc ts ms sp') ∧ Hid (Below w.heap.size w wr))
      case atStart => exact ⟨0, rfl, by omega, rfl, HX, HV, HB⟩
      case round =>
        obtain ⟨k, rfl, hk, rfl, HX1, HV1, HB1⟩ := hrel
        by_cases hlt : k < ns
        · have l0 : (0 : Int) ≤ k := by omega
          have l1 : (k : Int) < ns := by omega
          have l2 : IntKind.i64.wrap ((k : Int) + 1) = k + 1 := i64_in (by omega) (by omega)
          obtain ⟨b0, off, rfl, hbl, hc⟩ := (QW.out.below HB1.out).at' (by omega)
          obtain ⟨q1, q2⟩ := hc k hlt
          obtain ⟨t, ht⟩ : ∃ t, tat sp k = t := ⟨_, rfl⟩
          obtain ⟨x, hx⟩ : ∃ t, kat sp k = t := ⟨_, rfl⟩
          rw [ht] at q1
          rw [hx] at q2
          have HT := hid ht
          have HXx := hid hx
          clear hc ht hx
          have X4 := hid (HX1.out.alloc (.cells #[.string t, .int .i64 x] 49))
          have Y4 := hid (Bx2.new wr 49 (.string t) (.int .i64 x))
          have B4 := hid (HB1.out.alloc HB1.out.size (.cells #[.string t, .int .i64 x] 49))
          have V4 := hid (HV1.out.below ((Below.refl _ wr).alloc (Nat.le_refl _) (.cells #[.string t, .int .i64 x] 49)))
          have x0 := X4.out.cell0
          have x1 := X4.out.cell1
          have x2 := X4.out.cell2
          go_wp2_with fail
          refine (name_calls V4.out.S x).mono ?_
          rintro e w5 ⟨E5, b5⟩
          have X5 := hid (X4.out.below b5 X4.out.lt)
          have Y5 := hid (Y4.out.below b5 Y4.out.lt)
          have V5 := hid (V4.out.below b5)
          have B5 := hid (B4.out.trans (b5.mono B4.out.size))
          clear b5 X4 Y4 V4 B4 x0 x1 x2
          have k0 := fun d os => cell_regrown X5.out.cell0 d os
          have k1 := fun d os => cell_regrown X5.out.cell1 d os
          have k2 := fun d os => cell_regrown X5.out.cell2 d os
          have r0 := fun d os => cell_regrown Y5.out.cell0 d os
          have r1 := fun d os => cell_regrown Y5.out.cell1 d os
          have tt : (t.toList == t.toList) = true := beq_self_eq_true _
          rw [← HXx.out] at E5
          have h5 := from_name HF.out (by omega) E5
          rw [HT.out] at h5
          clear E5
          subst h5
          have cI := fun d os => Calls.regrown_of ((id_calls (a := ta) (n := tn) (c := tc) (am := am) (nm := nm) (cm := cm) (V5.out.S.below (below_regrown w5 d os)) t).mono fun e w' ⟨⟨r, h1, h2⟩, h3⟩ => (show e = .returned (.int .i64 x) ∧ _ from ⟨by rw [h1, ← HXx.out]; rw [← HT.out] at h2; rw [from_id HF.out (by omega) h2], h3⟩))
          go_wp2_with fail
          refine wp_region_quiet_below (by kernel_rfl) (by kernel_rfl) ?_
          repeat (any_goals (first | go_big_quiet_step (exact cI _ _) | quiet_step (exact cI _ _)))
          refine wpQuiet_nil ?_
          intro _ hw'
          obtain ⟨⟨dq, osq⟩, hw''⟩ := hw'
          subst hw''
          clear k0 k1 k2 r0 r1 cI
          have X6 := hid (X5.out.below (below_regrown w5 dq osq) X5.out.lt)
          have V6 := hid (V5.out.below (below_regrown w5 dq osq))
          have B6 := hid (B5.out.trans ((below_regrown w5 dq osq).mono B5.out.size))
          go_wp2_with fail
          go_roundg (ns - (k + 1))
          case measure => omega
          case rel => exact ⟨k + 1, rfl, by omega, by go_num, X6, V6, B6⟩
        · have l1 : ¬ (k : Int) < ns := by omega
          have x1 := HX1.out.cell1
          go_wp2_with fail
          go_loopg [124] nm (fun r iv wr => ∃ q : Nat, r = nm - q ∧ q ≤ nm ∧ iv = .int .i64 q ∧ Hid (Bx3 wr K 26 (.slice ta tn tc) (.slice am nm cm) (.slice za zn zc)) ∧ Hid (Vo wr ta tn tc am nm cm za zn zc ts ms sp') ∧ Hid (Below w.heap.size w wr))
          case atStart => exact ⟨0, rfl, by omega, rfl, HX1, HV1, HB1⟩
          case round =>
            obtain ⟨q, rfl, hq, rfl, HX2, HV2, HB2⟩ := hrel
            by_cases hlt : q < nm
            · have l0 : (0 : Int) ≤ q := by omega
              have l1 : (q : Int) < nm := by omega
              have l2 : IntKind.i64.wrap ((q : Int) + 1) = q + 1 := i64_in (by omega) (by omega)
              obtain ⟨b0, off, hab, hbl, hc⟩ := HV2.out.M.at' (by omega)
              subst hab
              obtain ⟨p0, p1, p2, p3⟩ := hc q hlt
              have hok := HF.out.may.M.ok q (by omega)
              obtain ⟨⟨x0, x1, x2, x3⟩, hx⟩ : ∃ x, mat ms q = x := ⟨_, rfl⟩
              rw [hx] at p0 p1 p2 p3 hok
              have HOk := hid hok
              clear hc hx hok
              have X4 := hid (HX2.out.alloc (.cells #[.int .i64 x0, .int .i64 x1, .int .i64 x2, .int .i64 x3] 54))
              have Y4 := hid (Bx4.new wr 54 (.int .i64 x0) (.int .i64 x1) (.int .i64 x2) (.int .i64 x3))
              have B4 := hid (HB2.out.alloc HB2.out.size (.cells #[.int .i64 x0, .int .i64 x1, .int .i64 x2, .int .i64 x3] 54))
              have V4 := hid (HV2.out.below ((Below.refl _ wr).alloc (Nat.le_refl _) (.cells #[.int .i64 x0, .int .i64 x1, .int .i64 x2, .int .i64 x3] 54)))
              have z0 := X4.out.cell0
              have z1 := X4.out.cell1
              have z2 := X4.out.cell2
              have y0 := Y4.out.cell0
              go_wp2_with fail
              refine (bytes_calls V4.out.T x0).mono ?_
              rintro e w5 ⟨E5, b5⟩
              have X5 := hid (X4.out.below b5 X4.out.lt)
              have Y5 := hid (Y4.out.below b5 Y4.out.lt)
              have V5 := hid (V4.out.below b5)
              have B5 := hid (B4.out.trans (b5.mono B4.out.size))
              clear b5 X4 Y4 V4 B4 z0 z1 z2 y0
              have e5 : e = .returned (.tuple #[.string (Vc.tok ts x0), .bool true]) := by
                rcases E5 with ⟨_, h⟩ | ⟨h, _⟩
                · exact h
                · exact absurd HOk.out.1 h
              subst e5
              clear E5
              have z0 := X5.out.cell0
              have z1 := X5.out.cell1
              have z2 := X5.out.cell2
              have y1 := Y5.out.cell1
              go_wp2_with fail
              refine (bytes_calls V5.out.T x1).mono ?_
              rintro e w6 ⟨E5, b5⟩
              have X6 := hid (X5.out.below b5 X5.out.lt)
              have Y6 := hid (Y5.out.below b5 Y5.out.lt)
              have V6 := hid (V5.out.below b5)
              have B6 := hid (B5.out.trans (b5.mono B5.out.size))
              clear b5 X5 Y5 V5 B5 z0 z1 z2 y1
              have e5 : e = .returned (.tuple #[.string (Vc.tok ts x1), .bool true]) := by
                rcases E5 with ⟨_, h⟩ | ⟨h, _⟩
                · exact h
                · exact absurd HOk.out.2.1 h
              subst e5
              clear E5
              have z0 := X6.out.cell0
              have z1 := X6.out.cell1
              have z2 := X6.out.cell2
              have y2 := Y6.out.cell2
              go_wp2_with fail
              refine (bytes_calls V6.out.T x2).mono ?_
              rintro e w7 ⟨E5, b5⟩
              have X7 := hid (X6.out.below b5 X6.out.lt)
              have V7 := hid (V6.out.below b5)
              have B7 := hid (B6.out.trans (b5.mono B6.out.size))
              clear b5 X6 Y6 V6 B6 z0 z1 z2 y2
              have e5 : e = .returned (.tuple #[.string (Vc.tok ts x2), .bool true]) := by
                rcases E5 with ⟨_, h⟩ | ⟨h, _⟩
                · exact h
                · exact absurd HOk.out.2.2.1 h
              subst e5
              clear E5
              have hcat := HOk.out.2.2.2.1
              have sz0 : (Vc.tok ts x0).size ≤ 64 := HF.out.may.T.sz x0.toNat (by have := HOk.out.1.1; have := HOk.out.1.2.1; simp at *; omega)
              have sz1 : (Vc.tok ts x1).size ≤ 64 := HF.out.may.T.sz x1.toNat (by have := HOk.out.2.1.1; have := HOk.out.2.1.2.1; simp at *; omega)
              simp only at hcat
              obtain ⟨s0, hs0⟩ : ∃ s, Vc.tok ts x0 = s := ⟨_, rfl⟩
              obtain ⟨s1, hs1⟩ : ∃ s, Vc.tok ts x1 = s := ⟨_, rfl⟩
              rw [hs0] at hcat sz0 ⊢
              rw [hs1] at hcat sz1 ⊢
              rw [hcat]
              have hadd : ¬ 9223372036854775807 < s0.size + s1.size := by omega
              have ss : ((s0 ++ s1).toList == (s0 ++ s1).toList) = true := beq_self_eq_true _
              clear hcat hs0 hs1 HOk
              go_wp2_with fail
              go_roundg (nm - (q + 1))
              case measure => omega
              case rel => exact ⟨q + 1, rfl, by omega, by go_num, X7, V7, B7⟩
            · have l1 : ¬ (q : Int) < nm := by omega
              go_wp2_with fail
              refine (fixed_calls _).mono ?_
              rintro e w5 ⟨rfl, b5⟩
              have X5 := hid (HX2.out.below b5 HX2.out.lt)
              have V5 := hid (HV2.out.below b5)
              have B5 := hid (HB2.out.trans (b5.mono HB2.out.size))
              clear b5
              have z0 := X5.out.cell0
              have z1 := X5.out.cell1
              have z2 := X5.out.cell2
              go_wp2_with fail
              refine (may_calls V5.out (fun i hi => Nat.le_trans (HF.out.may.T.sz i (by omega)) (by decide))).mono ?_
              rintro e w6 ⟨⟨t, rfl, ht⟩, b6⟩
              have X6 := hid (X5.out.below b6 X5.out.lt)
              have B6 := hid (B5.out.trans (b6.mono B5.out.size))
              obtain rfl : t = true := ht.2 HF.out.may
              clear ht b6 z0 z1 z2
              have z2 := X6.out.cell2
              have hzz : (zn : Int) = ns := by omega
              have hzb : ((zn : Int) == (ns : Int)) = true := by simp; omega
              have hzn : zn = ns := by omega
              go_wp2_with fail
              go_ret
              first
                | exact ⟨rfl, B6.out⟩
                | exact ⟨by simp, B6.out⟩
end Go.Proofs.Ytjpboackbjfenaa
