/-
  Several texts in one: VrB, VrP, VrF, PrLt.
-/
import Derived.Test.YtcjakjmhghoilaaLotR
import Derived.Test.YtcjakjmhghoilaaLotW
import Derived.Deep.QuietTactic
import Derived.BigQuiet
import Derived.Deep.RegionHeld3
import Derived.Lib.QuietBelow
import Derived.Test.YtcjakjmhghoilaaLotV
/-
  Walk of the reference's base.
-/
namespace Go.Proofs.Ytcjakjmhghoilaa
open Go.RowKit Go.Maps
set_option linter.unusedVariables false

theorem take_row {sp : Vc.Sps} {j : Nat} (h : j < sp.length) : sp.take (j + 1) = sp.take j ++ [(tat sp j, kat sp j)] := by
  rw [List.take_add_one]
  congr 1
  simp [tat, kat, h]
theorem rw_drew {w : World} {a : Option Addr} {n c : Nat} {xs : Vc.Sps} (h : Rw w a n c xs) (d : Nat) : Rw (w.drewN d) a n c xs := ⟨h.len, h.le, h.mx, h.nil, h.at'⟩
theorem own_addr_some {w : World} {base n m c k : Nat} {e : TypeId} {a : Option Addr} {xs : List Value} (h : w.ownsRow base e k (.slice a n c) m xs) (hm : 0 < m) : ∃ g, a = some ⟨g, 0, none⟩ := by
  obtain ⟨hl, ho⟩ := h
  rcases ho with ⟨h1, h2⟩ | ⟨g, cap, cur, h1, hb, _⟩
  · cases h1; omega
  · cases h1; exact ⟨_, rfl⟩

set_option maxRecDepth 100000 in
set_option maxHeartbeats 6400000 in
theorem rbase_calls {w : World} {a az : Option Addr} {n c ns cs : Nat} {rs sp : Vc.Sps} (V : Rw w a n c rs) (Q : Rw w az ns cs sp) (hn : n ≤ 1000) (hns : ns ≤ 1000) :
    Calls Try.prog 55 #[.slice a n c, .slice az ns cs] w fun e w' => BsOut w.heap.size rs sp e w' ∧ Below w.heap.size w w' := by
  have hl := V.len
  have hls := Q.len
  obtain ⟨i0, hi, hz0, hz1, hz2⟩ := info_parts Try.infoSp
  obtain ⟨j0, gi0, gz0, gz1, gz2⟩ := info_parts Try.infoSt
  have B0 := hid ((Below.refl w.heap.size w).alloc (Nat.le_refl _) (.cells #[.slice none 0 0, .slice none 0 0, .slice none 0 0] 26))
  have R0 := hid (Bx3.new w 26 (.slice none 0 0) (.slice none 0 0) (.slice none 0 0))
  have VW := hid V
  have QW := hid Q
  have V0 := hid (V.below B0.out)
  have Q0 := hid (Q.below B0.out)
  clear V Q
  obtain ⟨W, hW⟩ : ∃ W, w.alloc (.cells #[.slice none 0 0, .slice none 0 0, .slice none 0 0] 26) = W := ⟨_, rfl⟩
  have hWs : W.heap.size = w.heap.size + 1 := by rw [← hW]; simp
  rw [hW] at R0 V0 Q0 B0
  obtain ⟨y1, y2, y3⟩ := ret_three R0.out (.slice none 0 0) (.slice none 0 0) (.slice none 0 0)
  have BB := hid (below_three B0.out (R := w.heap.size) (Nat.le_refl _) (.slice none 0 0) (.slice none 0 0) (.slice none 0 0))
  have p0 := R0.out.cell0
  have p1 := R0.out.cell1
  have p2 := R0.out.cell2
  have q0 := R0.out.fr 0
  have q1 := R0.out.fr 1
  have q2 := R0.out.fr 2
  have u1 := y1.cell1
  have v1 := y1.fr 1
  have u2 := y2.cell2
  have v2 := y2.fr 2
  have r0 := y3.cell0
  have r1 := y3.cell1
  have r2 := y3.cell2
  unfold three at r0 r1 r2
  clear y1 y2 y3
  go_enter Try.func55, Try.ntmps55
  go_wp2_with fail
  try rw [hW]
  clear hW
  go_loopg [6, 18] ns (fun r sv iv wr => ∃ j N : Nat, r = ns - j ∧ sv = .int .i64 (N : Int) ∧ iv = .int .i64 (j : Int) ∧ j ≤ ns ∧ N ≤ 4096 ∧ Hid (∀ i, i < j → Vc.Num (kat sp i) ∧ kat sp i + 1 ≤ (N : Int)) ∧ Hid (N = 0 ∨ ∃ i, i < sp.length ∧ kat sp i + 1 = (N : Int)) ∧ W = wr)
  case atStart => exact ⟨0, 0, rfl, rfl, rfl, by omega, by omega, hid (fun i hi => by omega), hid (.inl rfl), rfl⟩
  case round =>
    obtain ⟨j, N, rfl, rfl, rfl, hj, hN, HA, HT, rfl⟩ := hrel
    by_cases hlt : j < ns
    · have l0 : (0 : Int) ≤ j := by omega
      have l1 : (j : Int) < ns := by omega
      have l2 : IntKind.i64.wrap ((j : Int) + 1) = j + 1 := i64_in (by omega) (by omega)
      obtain ⟨b, off, rfl, hbl, hc⟩ := Q0.out.at' (by omega)
      have s2 := (hc j hlt).2
      obtain ⟨x, hx1⟩ : ∃ x, kat sp j = x := ⟨_, rfl⟩
      rw [hx1] at s2
      have HX := hid hx1
      clear hc hx1
      by_cases hnum : Vc.Num x
      · have n0 : ¬ x < 0 := by have := hnum.1; omega
        have n1 : ¬ (4096 : Int) ≤ x := by have := hnum.2; omega
        have dn0 : decide (x < (0 : Int)) = false := decide_eq_false n0
        have dn1 : decide ((4096 : Int) ≤ x) = false := decide_eq_false n1
        obtain ⟨N', a1, a2, a3, a4, a5, a6⟩ := max_up (N := N) hnum
        have l3 : IntKind.i64.wrap (x + 1) = x + 1 := i64_in (by omega) (by omega)
        have HM := hid hnum
        have A1 := hid a1
        have A2 := hid a2
        have A3 := hid a3
        have A6 := hid a6
        clear hnum a1 a2 a3 a6
        go_wp2_with fail
        go_roundg (ns - (j + 1))
        case measure => omega
        case rel => exact ⟨j + 1, N', rfl, by go_num, by go_num, by omega, A6.out hN, hid (fun i hi => by
          by_cases h : i < j
          · have q := HA.out i h; have := A1.out; exact ⟨q.1, by omega⟩
          · obtain rfl : i = j := by omega
            rw [HX.out]; exact ⟨HM.out, A2.out⟩), hid (by
          rcases A3.out with h | h
          · rw [h]; exact HT.out
          · exact .inr ⟨j, by omega, by rw [HX.out]; exact h.symm⟩), rfl⟩
      · have HN := hid (show ¬ Vc.Ranks rs sp from fun h => hnum (by have := h.s j (by omega); rwa [HX.out] at this))
        have hw : x < 0 ∨ (¬ x < 0 ∧ (4096 : Int) ≤ x) := by unfold Vc.Num at hnum; omega
        clear hnum
        rcases hw with n0 | ⟨n0, n1⟩
        · go_wp2_with fail
          refine bodyPost_ret (v := .tuple #[.agg #[.slice none 0 0, .slice none 0 0, .slice none 0 0], .bool false]) (by simp [results, Try.results55, go_sem, r0, r1, r2]) rfl ?_
          exact ⟨.inr ⟨HN.out, rfl⟩, BB.out⟩
        · have dn0 : decide (x < (0 : Int)) = false := decide_eq_false n0
          go_wp2_with fail
          refine bodyPost_ret (v := .tuple #[.agg #[.slice none 0 0, .slice none 0 0, .slice none 0 0], .bool false]) (by simp [results, Try.results55, go_sem, r0, r1, r2]) rfl ?_
          exact ⟨.inr ⟨HN.out, rfl⟩, BB.out⟩
    · have hjn : j = ns := by omega
      have k1 : ¬ ((j : Int) < ns) := by omega
      go_wp2_with fail
      go_loopg [6, 47] n (fun r sv iv wr => ∃ j2 N2 : Nat, r = n - j2 ∧ sv = .int .i64 (N2 : Int) ∧ iv = .int .i64 (j2 : Int) ∧ j2 ≤ n ∧ N ≤ N2 ∧ N2 ≤ 4096 ∧ Hid (∀ i, i < j2 → Vc.Num (kat rs i) ∧ kat rs i + 1 ≤ (N2 : Int)) ∧ Hid (N2 = N ∨ ∃ i, i < rs.length ∧ kat rs i + 1 = (N2 : Int)) ∧ W = wr)
      case atStart => exact ⟨0, N, rfl, rfl, rfl, by omega, by omega, hN, hid (fun i hi => by omega), hid (.inl rfl), rfl⟩
      case round =>
        obtain ⟨j2, N2, rfl, rfl, rfl, hj2, hN1, hN2, HC, HD, rfl⟩ := hrel
        by_cases hlt : j2 < n
        · have l0 : (0 : Int) ≤ j2 := by omega
          have l1 : (j2 : Int) < n := by omega
          have l2 : IntKind.i64.wrap ((j2 : Int) + 1) = j2 + 1 := i64_in (by omega) (by omega)
          obtain ⟨b, off, rfl, hbl, hc⟩ := V0.out.at' (by omega)
          have s2 := (hc j2 hlt).2
          obtain ⟨x, hx1⟩ : ∃ x, kat rs j2 = x := ⟨_, rfl⟩
          rw [hx1] at s2
          have HX := hid hx1
          clear hc hx1
          by_cases hnum : Vc.Num x
          · have n0 : ¬ x < 0 := by have := hnum.1; omega
            have n1 : ¬ (4096 : Int) ≤ x := by have := hnum.2; omega
            have dn0 : decide (x < (0 : Int)) = false := decide_eq_false n0
            have dn1 : decide ((4096 : Int) ≤ x) = false := decide_eq_false n1
            obtain ⟨N', a1, a2, a3, a4, a5, a6⟩ := max_up (N := N2) hnum
            have l3 : IntKind.i64.wrap (x + 1) = x + 1 := i64_in (by omega) (by omega)
            have HM := hid hnum
            have A1 := hid a1
            have A2 := hid a2
            have A3 := hid a3
            have A6 := hid a6
            clear hnum a1 a2 a3 a6
            go_wp2_with fail
            go_roundg (n - (j2 + 1))
            case measure => omega
            case rel => exact ⟨j2 + 1, N', rfl, by go_num, by go_num, by omega, by have := A1.out; omega, A6.out hN2, hid (fun i hi => by
              by_cases h : i < j2
              · have q := HC.out i h; have := A1.out; exact ⟨q.1, by omega⟩
              · obtain rfl : i = j2 := by omega
                rw [HX.out]; exact ⟨HM.out, A2.out⟩), hid (by
              rcases A3.out with h | h
              · rw [h]; exact HD.out
              · exact .inr ⟨j2, by omega, by rw [HX.out]; exact h.symm⟩), rfl⟩
          · have HN := hid (show ¬ Vc.Ranks rs sp from fun h => hnum (by have := h.r j2 (by omega); rwa [HX.out] at this))
            have hw : x < 0 ∨ (¬ x < 0 ∧ (4096 : Int) ≤ x) := by unfold Vc.Num at hnum; omega
            clear hnum
            rcases hw with n0 | ⟨n0, n1⟩
            · go_wp2_with fail
              refine bodyPost_ret (v := .tuple #[.agg #[.slice none 0 0, .slice none 0 0, .slice none 0 0], .bool false]) (by simp [results, Try.results55, go_sem, r0, r1, r2]) rfl ?_
              exact ⟨.inr ⟨HN.out, rfl⟩, BB.out⟩
            · have dn0 : decide (x < (0 : Int)) = false := decide_eq_false n0
              go_wp2_with fail
              refine bodyPost_ret (v := .tuple #[.agg #[.slice none 0 0, .slice none 0 0, .slice none 0 0], .bool false]) (by simp [results, Try.results55, go_sem, r0, r1, r2]) rfl ?_
              exact ⟨.inr ⟨HN.out, rfl⟩, BB.out⟩
        · have k1 : ¬ ((j2 : Int) < n) := by omega
          have HSz := hid (show Vc.Sz rs sp N2 from ⟨fun i hi => (HC.out i (by omega)).2, fun i hi => by have := (HA.out i (by omega)).2; omega, by
            rcases HD.out with h | h
            · rcases HT.out with h2 | ⟨i, hi, h2⟩
              · exact .inl (by omega)
              · exact .inr (.inr ⟨i, hi, by omega⟩)
            · exact .inr (.inl h)⟩)
          go_wp2_with (refine wpList_make_vr (by rfl) _ _ 22 rfl (.string ⟨#[]⟩) 9 _ Try.underlying22 gi0 gz0 rfl gz1 (by omega) N2 (by omega) rfl rfl ?_; intro w2 R2 b2 z2; rw [hWs] at R2 b2 z2; have B2 := hid (B0.out.trans (b2.out.mono (by omega))); have RR2 := hid (R0.out.below b2.out (by omega)); clear b2)
          go_loopg [78] n (fun r iv wr => ∃ (j : Nat) (g : Nat → ByteArray), r = n - j ∧ iv = .int .i64 (j : Int) ∧ j ≤ n ∧ Hid (Vr wr (w.heap.size + 1) N2 9 (fun i => .string (g i))) ∧ Hid (∀ i, i < j → g (kat rs i).toNat = tat rs i) ∧ Hid (∀ k : Nat, (∀ i, i < j → kat rs i ≠ (k : Int)) → g k = ⟨#[]⟩) ∧ Hid (∀ i k, i < k → k < j → kat rs i ≠ kat rs k) ∧ Hid (Bx3 wr w.heap.size 26 (.slice none 0 0) (.slice none 0 0) (.slice none 0 0)) ∧ Hid (Below w.heap.size w wr))
          case atStart => exact ⟨0, fun _ => ⟨#[]⟩, rfl, rfl, by omega, R2, hid (fun i hi => by omega), hid (fun k _ => rfl), hid (fun i k _ hk => by omega), RR2, B2⟩
          case round =>
            obtain ⟨j3, g, rfl, rfl, hj3, HG, HE3, HF3, HP3, HR3, HB3⟩ := hrel
            by_cases hlt : j3 < n
            · have l0 : (0 : Int) ≤ j3 := by omega
              have l1 : (j3 : Int) < n := by omega
              have l2 : IntKind.i64.wrap ((j3 : Int) + 1) = j3 + 1 := i64_in (by omega) (by omega)
              have hnum := (HC.out j3 (by omega)).1
              have htop := (HC.out j3 (by omega)).2
              obtain ⟨t, ht⟩ : ∃ t, tat rs j3 = t := ⟨_, rfl⟩
              obtain ⟨q, hq1⟩ : ∃ q : Nat, kat rs j3 = (q : Int) := ⟨(kat rs j3).toNat, by have := hnum.1; omega⟩
              rw [hq1] at hnum htop
              have hq : q < N2 := by omega
              have i0' : (0 : Int) ≤ q := by omega
              have i1' : (q : Int) < N2 := by omega
              have HX := hid hq1
              have HTt := hid ht
              clear ht hq1 hnum htop
              have V3 := hid (VW.out.below HB3.out)
              obtain ⟨b, off, rfl, hbw, _⟩ := VW.out.at' (by omega)
              obtain ⟨b', off', hbe, hbl, hc⟩ := V3.out.at' (by omega)
              cases hbe
              obtain ⟨s1, s2⟩ := hc j3 hlt
              rw [HTt.out] at s1
              rw [HX.out] at s2
              have HC3 := hid hc
              clear hc
              obtain ⟨W3, hW3⟩ : ∃ W3, W3 = wr := ⟨_, rfl⟩
              subst hW3
              go_wp2_with fail
              go_loopg [11] j3 (fun r iv wr2 => ∃ (k d : Nat), r = j3 - k ∧ iv = .int .i64 (k : Int) ∧ k ≤ j3 ∧ Hid (∀ i, i < k → kat rs i ≠ (q : Int)) ∧ wr2 = W3.drewN d)
              case atStart => exact ⟨0, 0, rfl, rfl, by omega, hid (fun i hi => by omega), rfl⟩
              case round =>
                obtain ⟨k, d, rfl, rfl, hk, HK, rfl⟩ := hrel
                by_cases hlt2 : k < j3
                · have m0 : (0 : Int) ≤ k := by omega
                  have m1 : (k : Int) < j3 := by omega
                  have m2 : (k : Int) < n := by omega
                  have m3 : IntKind.i64.wrap ((k : Int) + 1) = k + 1 := i64_in (by omega) (by omega)
                  obtain ⟨z1, z2⟩ := HC3.out k (by omega)
                  obtain ⟨x, hx⟩ : ∃ x, kat rs k = x := ⟨_, rfl⟩
                  rw [hx] at z2
                  have HXk := hid hx
                  clear hx
                  by_cases hxq : x = (q : Int)
                  · subst hxq
                    go_wp2_with fail
                    go_quiet (fail)
                    obtain ⟨WD, hWD⟩ : ∃ WD, (W3.drewN d).drewN nq = WD := ⟨_, rfl⟩
                    have RD := hid (show Bx3 WD w.heap.size 26 (.slice none 0 0) (.slice none 0 0) (.slice none 0 0) from hWD ▸ HR3.out)
                    have BD := hid (show Below w.heap.size w WD from hWD ▸ below_drewN (below_drewN HB3.out _) _)
                    rw [hWD]
                    clear hWD
                    have HN := hid (show ¬ Vc.Ranks rs sp from fun h => h.ap k j3 (by omega) (by omega) (by rw [HXk.out, HX.out]))
                    obtain ⟨y1, y2, y3⟩ := ret_three RD.out (.slice none 0 0) (.slice none 0 0) (.slice none 0 0)
                    have BB := hid (below_three BD.out (R := w.heap.size) (Nat.le_refl _) (.slice none 0 0) (.slice none 0 0) (.slice none 0 0))
                    have p0 := RD.out.cell0
                    have p1 := RD.out.cell1
                    have p2 := RD.out.cell2
                    have q0 := RD.out.fr 0
                    have q1 := RD.out.fr 1
                    have q2 := RD.out.fr 2
                    have u1 := y1.cell1
                    have v1 := y1.fr 1
                    have u2 := y2.cell2
                    have v2 := y2.fr 2
                    have r0 := y3.cell0
                    have r1 := y3.cell1
                    have r2 := y3.cell2
                    unfold three at r0 r1 r2
                    clear y1 y2 y3
                    go_wp2_with fail
                    refine bodyPost_ret (v := .tuple #[.agg #[.slice none 0 0, .slice none 0 0, .slice none 0 0], .bool false]) (by simp [results, Try.results55, go_sem, r0, r1, r2]) rfl ?_
                    exact ⟨.inr ⟨HN.out, rfl⟩, BB.out⟩
                  · have hxb : (x == (q : Int)) = false := by simpa using hxq
                    go_wp2_with fail
                    go_quiet (fail)
                    go_wp2_with fail
                    go_roundg (j3 - (k + 1))
                    case measure => omega
                    case rel => exact ⟨k + 1, d + nq, rfl, by go_num, by omega, hid (fun i hi => by
                      by_cases h : i < k
                      · exact HK.out i h
                      · obtain rfl : i = k := by omega
                        rw [HXk.out]; exact hxq), rfl⟩
                · have hkj : k = j3 := by omega
                  have m1 : ¬ (k : Int) < j3 := by omega
                  have cq : W3.cell? ⟨w.heap.size + 1, q, none⟩ = some (.string (g q)) := HG.out.cell hq
                  have fq := HG.out.fr q
                  have hneb : b ≠ w.heap.size + 1 := by omega
                  have hltK := HG.out.lt
                  go_wp2_with fail
                  go_region_held3 (fun w' => w'.cell? ⟨b, off + j3 * 2, none⟩ = some (.string t) ∧ w'.cell? ⟨b, off + j3 * 2 + 1, none⟩ = some (.int .i64 (q : Int))) (first | exact ⟨(World.cell?_of_block (Below.heap_setCell _ _ _ _ hneb)).trans s1, (World.cell?_of_block (Below.heap_setCell _ _ _ _ hneb)).trans s2⟩ | go_keep) (fail)
                  go_wp2_with fail
                  go_roundg (n - (j3 + 1))
                  case measure => omega
                  case rel =>
                    refine ⟨j3 + 1, fun i => if i = q then t else g i, rfl, by go_num, by omega, hid (((show Vr (W3.drewN (d + 1)) (w.heap.size + 1) N2 9 (fun i => .string (g i)) from HG.out).set q (.string t)).congr (fun i hi => ?_)), hid (fun i hi => ?_), hid (fun m hm => ?_), hid (fun i m hik hm => ?_), hid ((show Bx3 (W3.drewN (d + 1)) w.heap.size 26 (.slice none 0 0) (.slice none 0 0) (.slice none 0 0) from HR3.out).other (by omega) _), hid ((below_drewN HB3.out (d + 1)).setCell (by first | omega | (simp; done) | (simp; omega)) _)⟩
                    · simp only [upd]
                      split <;> rfl
                    · show (if (kat rs i).toNat = q then t else g (kat rs i).toNat) = tat rs i
                      by_cases hij : i < j3
                      · have hne : (kat rs i).toNat ≠ q := fun e => by
                          have h0 := (HC.out i (by omega)).1.1
                          exact HK.out i (by omega) (by omega)
                        rw [if_neg hne]
                        exact HE3.out i hij
                      · obtain rfl : i = j3 := by omega
                        rw [HX.out, if_pos (by simp), HTt.out]
                    · show (if m = q then t else g m) = _
                      by_cases hmq : m = q
                      · exact absurd (by rw [HX.out, hmq]) (hm j3 (by omega))
                      · rw [if_neg hmq]
                        exact HF3.out m (fun i hi => hm i (by omega))
                    · by_cases hkj : m < j3
                      · exact HP3.out i m hik hkj
                      · obtain rfl : m = j3 := by omega
                        rw [HX.out]
                        exact HK.out i (by omega)
            · have hj3 : j3 = n := by omega
              have k2 : ¬ ((j3 : Int) < n) := by omega
              obtain ⟨W4, hW4⟩ : ∃ W4, W4 = wr := ⟨_, rfl⟩
              subst hW4
              have HRk := hid (show Vc.Ranks rs sp from ⟨fun i hi => (HC.out i (by omega)).1, fun i hi => (HA.out i (by omega)).1, fun i m hik hm => HP3.out i m hik (by omega)⟩)
              have hTs := Ts.ofVr HG.out (by unfold maxLen; omega)
              have hTk : Vc.TokIs rs sp ((List.range N2).map g) := ⟨by simpa using HSz.out, fun i hi => by
                  have h0 := (HC.out i (by omega)).1.1
                  have h1 := (HC.out i (by omega)).2
                  have : (kat rs i).toNat < N2 := by omega
                  simpa [at_, this] using HE3.out i (by omega), fun m hm hno => by
                  have hm' : m < N2 := by simpa using hm
                  simpa [at_, hm'] using HF3.out m (fun i hi => hno i (by omega))⟩
              have hlen : ((List.range N2).map g).length = N2 := by simp
              obtain ⟨ts, hts⟩ : ∃ ts, (List.range N2).map g = ts := ⟨_, rfl⟩
              rw [hts] at hTs hTk hlen
              have HTs := hid hTs
              have HTk := hid hTk
              have HL := hid hlen
              clear hTs hTk hlen hts HE3 HF3 HP3 HC HD HA HT
              have Q4 := hid (QW.out.below HB3.out)
              have hR4 := HR3.out.lt
              have hK4 := HG.out.lt
              have O0 := hid (Rw.none (W4.alloc (.cells #[] 73)) 0 (some ⟨W4.heap.size, 0, none⟩) (Nat.zero_le _) (fun h => rfl))
              have B05 := hid ((Below.refl W4.heap.size W4).alloc (Nat.le_refl _) (.cells #[] 73))
              go_wp2_with fail
              go_loopg [12, 114] ns (fun r ov iv wr => ∃ (j go oo co : Nat) (so : Vc.Sps), r = ns - j ∧ ov = .slice (some ⟨go, oo, none⟩) j co ∧ iv = .int .i64 (j : Int) ∧ j ≤ ns ∧ Hid (Rw wr (some ⟨go, oo, none⟩) j co so) ∧ Hid (W4.heap.size ≤ go) ∧ Hid (so.Perm (sp.take j)) ∧ Hid (so.Pairwise (fun a b => ¬ Vc.NLt b.1 a.1)) ∧ Hid (Below W4.heap.size W4 wr))
              case atStart => exact ⟨0, W4.heap.size, 0, 0, [], rfl, rfl, rfl, by omega, O0, hid (Nat.le_refl _), hid (List.Perm.refl _), hid (List.Pairwise.nil), B05⟩
              case round =>
                obtain ⟨j, go, oo, co, so, rfl, rfl, rfl, hj, HO, HGo, HPm, HUp, HB⟩ := hrel
                obtain ⟨W5, hW5⟩ : ∃ W5, W5 = wr := ⟨_, rfl⟩
                subst hW5
                have hso := HO.out.len
                have hco := HO.out.le
                have hcm := HO.out.mx
                by_cases hlt : j < ns
                · have l0 : (0 : Int) ≤ j := by omega
                  have l1 : (j : Int) < ns := by omega
                  have l2 : IntKind.i64.wrap ((j : Int) + 1) = j + 1 := i64_in (by omega) (by omega)
                  obtain ⟨b2, f2, rfl, hb2, hc⟩ := Q4.out.at' (by omega)
                  obtain ⟨c1, c2⟩ := hc j hlt
                  obtain ⟨x, hx⟩ : ∃ x, tat sp j = x := ⟨_, rfl⟩
                  obtain ⟨kx, hkx⟩ : ∃ x, kat sp j = x := ⟨_, rfl⟩
                  rw [hx] at c1
                  rw [hkx] at c2
                  have HI := hid (show ∀ k, k ≤ j → (∀ i, i < k → ¬ Vc.NLt x (tat so i)) → (k < so.length → Vc.NLt x (tat so k)) → (so.take k ++ (x, kx) :: so.drop k).Perm (sp.take (j + 1)) ∧ (so.take k ++ (x, kx) :: so.drop k).Pairwise (fun a b => ¬ Vc.NLt b.1 a.1) from fun k hk h1 h2 => by
                    have hI : Vc.InsS so (x, kx) (so.take k ++ (x, kx) :: so.drop k) := ⟨k, by omega, rfl, h1, h2⟩
                    refine ⟨hI.perm.trans ?_, hI.up HUp.out⟩
                    rw [take_row (by omega), hx, hkx]
                    exact ((List.Perm.cons _ HPm.out).trans (List.perm_append_singleton _ _).symm))
                  clear hc hx hkx
                  have e1 := (HB.out.cell (p := ⟨b2, f2 + j * 2, none⟩) hb2).trans c1
                  go_wp2_with fail
                  go_loopg [14] (j + 1) (fun r iv wr2 => ∃ (k d : Nat), r = j + 1 - k ∧ iv = .int .i64 (k : Int) ∧ k ≤ j ∧ Hid (∀ i, i < k → ¬ Vc.NLt x (tat so i)) ∧ wr2 = W5.drewN d)
                  case atStart => exact ⟨0, 0, rfl, rfl, by omega, hid (fun i hi => by omega), rfl⟩
                  case round =>
                    obtain ⟨k, d, rfl, rfl, hk, HK, rfl⟩ := hrel
                    have m0 : (0 : Int) ≤ k := by omega
                    have m3 : (k : Int) ≤ co := by omega
                    have m4 : (k : Int) ≤ j := by omega
                    by_cases hlt2 : k < j
                    · have m1 : (k : Int) < j := by omega
                      have m2 : IntKind.i64.wrap ((k : Int) + 1) = k + 1 := i64_in (by omega) (by omega)
                      obtain ⟨bo, fo, hbo, hbol, hco2⟩ := HO.out.at' (by omega)
                      cases hbo
                      obtain ⟨z1, _⟩ := hco2 k hlt2
                      obtain ⟨y, hy⟩ : ∃ y, tat so k = y := ⟨_, rfl⟩
                      rw [hy] at z1
                      have HY := hid hy
                      clear hy hco2
                      by_cases hle : Vc.NLt x y
                      · have hb1 : (Op.bytesLess y.toList x.toList || y.toList == x.toList) = false := by
                          cases h : (Op.bytesLess y.toList x.toList || y.toList == x.toList)
                          · rfl
                          · exact absurd hle ((bl_leq y x).1 h)
                        have HE0 := hid hle
                        clear hle
                        go_wp2_with fail
                        go_quiet (fail)
                        obtain ⟨W6, hW6⟩ : ∃ W6, (W5.drewN d).drewN nq = W6 := ⟨_, rfl⟩
                        have HO6 := hid (show Rw W6 (some ⟨go, oo, none⟩) j co so from hW6 ▸ rw_drew (rw_drew HO.out _) _)
                        have B6 := hid (show Below W4.heap.size W4 W6 from hW6 ▸ below_drewN (below_drewN HB.out _) _)
                        rw [hW6]
                        clear hW6 HO z1 e1 hb1
                        have HO := HO6
                        clear HO6
                        have HE := hid (show k < so.length → Vc.NLt x (tat so k) from fun _ => by rw [HY.out]; exact HE0.out)
                        have hKw := B6.out.size
                        have B2 := hid (B6.out.alloc B6.out.size (.cells #[] 73))
                        have B2w := hid ((Below.refl W6.heap.size W6).alloc (Nat.le_refl _) (.cells #[] 73))
                        have S1 := hid ((HO.out.below B2w.out).first k hk).src
                        have OWN := hid (World.ownsRow_made (e := 73) (size := 2) W6 #[] 0 (Nat.le_refl _) (Nat.zero_le _) (by simp))
                        have BX3 := fun {w' : World} (g : (W6.alloc (.cells #[] 73)).grownBy w' (some W6.heap.size)) => B2w.out.grown g (by simp) (by rintro z ⟨⟩; exact Nat.le_refl _)
                        go_wp2_with (first | (at_builtin; refine wpList_append_src rfl _ _ 24 rfl W6.heap.size 73 i0 (.agg #[.string ⟨#[]⟩, .int .i64 0]) 2 24 Try.underlying24 hi hz0 hz1 hz2 rfl (by decide) _ _ _ rfl OWN.out (some ⟨go, oo, none⟩) k co (rv (so.take k)) rfl S1.out (by unfold maxLen; omega) (by omega) (by simp) ?_; intro v3 w3 own gr loc; have O3 := hid own; have G3 := hid gr; clear own gr loc; have B3 := hid (B2.out.grown G3.out B2.out.size (by rintro z ⟨⟩; exact hKw)); have y1 := (B3.out.cell (p := ⟨b2, f2 + j * 2, none⟩) hb2).trans c1; have y2 := (B3.out.cell (p := ⟨b2, f2 + j * 2 + 1, none⟩) hb2).trans c2; have hw3 := G3.out.size; have OB3 := hid (own_at O3.out); have B4 := hid (B3.out.alloc B3.out.size (.cells #[.string x, .int .i64 kx] 73)); clear OWN S1) | (at_builtin; refine wpList_append_src rfl _ _ 24 rfl W6.heap.size 73 i0 (.agg #[.string ⟨#[]⟩, .int .i64 0]) 2 24 Try.underlying24 hi hz0 hz1 hz2 rfl (by decide) v3 (0 + k) _ rfl (O3.out.alloc _) (some ⟨w3.heap.size, 0, none⟩) 1 1 [.string x, .int .i64 kx] rfl (src_row x kx _) (by unfold maxLen; omega) (by omega) (by simp at hw3 ⊢; omega) ?_; intro v5 w5 own gr loc; have O5 := hid own; have G5 := hid gr; clear own gr loc; have B5 := hid (B4.out.grown G5.out B4.out.size (fun z hz => by have := OB3.out z hz; omega)); have BX5 := hid (show Below W6.heap.size W6 w5 from (((BX3 G3.out).alloc (by simp at hw3; omega) _).grown G5.out (by simp at hw3 ⊢; omega) (fun z hz => OB3.out z hz))); have OB5 := hid (own_at O5.out); have hw5 := G5.out.size; have S2 := hid ((rw_drop (HO.out.below BX5.out) k (by omega)).src); clear O3 y1 y2) | (at_builtin; refine wpList_append_src rfl _ _ 24 rfl W6.heap.size 73 i0 (.agg #[.string ⟨#[]⟩, .int .i64 0]) 2 24 Try.underlying24 hi hz0 hz1 hz2 rfl (by decide) v5 (0 + k + 1) _ rfl O5.out (some ⟨go, oo + k * 2, none⟩) (j - k) (co - k) (rv (so.drop k)) rfl S2.out (by unfold maxLen; omega) (by omega) (by simp at hw3 hw5 ⊢; omega) ?_; intro v7 w7 own gr loc; have O7 := hid own; have G7 := hid gr; clear own gr loc; have B7 := hid (B5.out.grown G7.out B5.out.size (fun z hz => by have := OB5.out z hz; omega)); clear O5 S2))
                        have O8 := hid (show w7.ownsRow W6.heap.size 73 2 v7 (j + 1) (rv (so.take k ++ (x, kx) :: so.drop k)) from by
                          have := O7.out
                          rw [List.nil_append, rv_snoc, rv_append, List.append_assoc, show 0 + k + 1 + (j - k) = j + 1 by omega] at this
                          exact this)
                        obtain ⟨a', c', rfl, hq⟩ := Rw.ofOwn O8.out
                        obtain ⟨g', rfl⟩ := own_addr_some O8.out (by omega)
                        have HQ8 := hid hq
                        have HI8 := hid (hi_own O8.out)
                        clear hq O7 O8
                        go_roundg (ns - (j + 1))
                        case measure => omega
                        case rel =>
                          refine ⟨j + 1, g', 0, c', _, rfl, rfl, by go_num, by omega, HQ8, hid ?_, hid ((HI.out k hk HK.out HE.out).1), hid ((HI.out k hk HK.out HE.out).2), B7⟩
                          have := HI8.out _ _ _ rfl
                          omega
                      · have hb1 : (Op.bytesLess y.toList x.toList || y.toList == x.toList) = true := (bl_leq y x).2 hle
                        have HE0 := hid hle
                        clear hle
                        go_wp2_with fail
                        go_quiet (fail)
                        go_wp2_with fail
                        go_roundg (j + 1 - (k + 1))
                        case measure => omega
                        case rel => exact ⟨k + 1, d + nq, rfl, by go_num, by omega, hid (fun i hi => by
                          by_cases h : i < k
                          · exact HK.out i h
                          · obtain rfl : i = k := by omega
                            rw [HY.out]; exact HE0.out), rfl⟩
                    · have hkj : k = j := by omega
                      subst hkj
                      have m1 : ¬ (k : Int) < k := by omega
                      have d1 : decide ((k : Int) < k) = false := decide_eq_false m1
                      have HE := hid (show k < so.length → Vc.NLt x (tat so k) from fun h => by omega)
                      go_wp2_with fail
                      go_quiet (fail)
                      obtain ⟨W6, hW6⟩ : ∃ W6, (W5.drewN d).drewN nq = W6 := ⟨_, rfl⟩
                      have HO6 := hid (show Rw W6 (some ⟨go, oo, none⟩) k co so from hW6 ▸ rw_drew (rw_drew HO.out _) _)
                      have B6 := hid (show Below W4.heap.size W4 W6 from hW6 ▸ below_drewN (below_drewN HB.out _) _)
                      rw [hW6]
                      clear hW6 HO e1
                      have HO := HO6
                      clear HO6
                      by_cases hck : k = co
                      · subst hck
                        have hKw := B6.out.size
                        have B2 := hid (B6.out.alloc B6.out.size (.cells #[] 73))
                        have B2w := hid ((Below.refl W6.heap.size W6).alloc (Nat.le_refl _) (.cells #[] 73))
                        have S1 := hid ((HO.out.below B2w.out).first k hk).src
                        have OWN := hid (World.ownsRow_made (e := 73) (size := 2) W6 #[] 0 (Nat.le_refl _) (Nat.zero_le _) (by simp))
                        have BX3 := fun {w' : World} (g : (W6.alloc (.cells #[] 73)).grownBy w' (some W6.heap.size)) => B2w.out.grown g (by simp) (by rintro z ⟨⟩; exact Nat.le_refl _)
                        go_wp2_with (first | (at_builtin; refine wpList_append_src rfl _ _ 24 rfl W6.heap.size 73 i0 (.agg #[.string ⟨#[]⟩, .int .i64 0]) 2 24 Try.underlying24 hi hz0 hz1 hz2 rfl (by decide) _ _ _ rfl OWN.out (some ⟨go, oo, none⟩) k k (rv (so.take k)) rfl S1.out (by unfold maxLen; omega) (by omega) (by simp) ?_; intro v3 w3 own gr loc; have O3 := hid own; have G3 := hid gr; clear own gr loc; have B3 := hid (B2.out.grown G3.out B2.out.size (by rintro z ⟨⟩; exact hKw)); have y1 := (B3.out.cell (p := ⟨b2, f2 + k * 2, none⟩) hb2).trans c1; have y2 := (B3.out.cell (p := ⟨b2, f2 + k * 2 + 1, none⟩) hb2).trans c2; have hw3 := G3.out.size; have OB3 := hid (own_at O3.out); have B4 := hid (B3.out.alloc B3.out.size (.cells #[.string x, .int .i64 kx] 73)); clear OWN S1) | (at_builtin; refine wpList_append_src rfl _ _ 24 rfl W6.heap.size 73 i0 (.agg #[.string ⟨#[]⟩, .int .i64 0]) 2 24 Try.underlying24 hi hz0 hz1 hz2 rfl (by decide) v3 (0 + k) _ rfl (O3.out.alloc _) (some ⟨w3.heap.size, 0, none⟩) 1 1 [.string x, .int .i64 kx] rfl (src_row x kx _) (by unfold maxLen; omega) (by omega) (by simp at hw3 ⊢; omega) ?_; intro v5 w5 own gr loc; have O5 := hid own; have G5 := hid gr; clear own gr loc; have B5 := hid (B4.out.grown G5.out B4.out.size (fun z hz => by have := OB3.out z hz; omega)); have BX5 := hid (show Below W6.heap.size W6 w5 from (((BX3 G3.out).alloc (by simp at hw3; omega) _).grown G5.out (by simp at hw3 ⊢; omega) (fun z hz => OB3.out z hz))); have OB5 := hid (own_at O5.out); have hw5 := G5.out.size; have S2 := hid (show Src w5 (some ⟨go, oo, none⟩) 0 0 2 (rv (so.drop k)) from by rw [List.drop_of_length_le (by omega)]; exact ⟨rfl, (by simp [rv]), (fun h => by cases h), (fun _ _ z u hu => by simp [rv] at hu)⟩); clear O3 y1 y2) | (at_builtin; refine wpList_append_src rfl _ _ 24 rfl W6.heap.size 73 i0 (.agg #[.string ⟨#[]⟩, .int .i64 0]) 2 24 Try.underlying24 hi hz0 hz1 hz2 rfl (by decide) v5 (0 + k + 1) _ rfl O5.out (some ⟨go, oo, none⟩) 0 0 (rv (so.drop k)) rfl S2.out (by unfold maxLen; omega) (by omega) (by simp at hw3 hw5 ⊢; omega) ?_; intro v7 w7 own gr loc; have O7 := hid own; have G7 := hid gr; clear own gr loc; have B7 := hid (B5.out.grown G7.out B5.out.size (fun z hz => by have := OB5.out z hz; omega)); clear O5 S2))
                        have O8 := hid (show w7.ownsRow W6.heap.size 73 2 v7 (k + 1) (rv (so.take k ++ (x, kx) :: so.drop k)) from by
                          have := O7.out
                          rw [List.nil_append, rv_snoc, rv_append, List.append_assoc, show 0 + k + 1 + 0 = k + 1 by omega] at this
                          exact this)
                        obtain ⟨a', c', rfl, hq⟩ := Rw.ofOwn O8.out
                        obtain ⟨g', rfl⟩ := own_addr_some O8.out (by omega)
                        have HQ8 := hid hq
                        have HI8 := hid (hi_own O8.out)
                        clear hq O7 O8
                        go_roundg (ns - (k + 1))
                        case measure => omega
                        case rel =>
                          refine ⟨k + 1, g', 0, c', _, rfl, rfl, by go_num, by omega, HQ8, hid ?_, hid ((HI.out k hk HK.out HE.out).1), hid ((HI.out k hk HK.out HE.out).2), B7⟩
                          have := HI8.out _ _ _ rfl
                          omega
                      · have hck2 : ¬ co = k := fun h => hck h.symm
                        have hKw := B6.out.size
                        have B2 := hid (B6.out.alloc B6.out.size (.cells #[] 73))
                        have B2w := hid ((Below.refl W6.heap.size W6).alloc (Nat.le_refl _) (.cells #[] 73))
                        have S1 := hid ((HO.out.below B2w.out).first k hk).src
                        have OWN := hid (World.ownsRow_made (e := 73) (size := 2) W6 #[] 0 (Nat.le_refl _) (Nat.zero_le _) (by simp))
                        have BX3 := fun {w' : World} (g : (W6.alloc (.cells #[] 73)).grownBy w' (some W6.heap.size)) => B2w.out.grown g (by simp) (by rintro z ⟨⟩; exact Nat.le_refl _)
                        go_wp2_with (first | (at_builtin; refine wpList_append_src rfl _ _ 24 rfl W6.heap.size 73 i0 (.agg #[.string ⟨#[]⟩, .int .i64 0]) 2 24 Try.underlying24 hi hz0 hz1 hz2 rfl (by decide) _ _ _ rfl OWN.out (some ⟨go, oo, none⟩) k co (rv (so.take k)) rfl S1.out (by unfold maxLen; omega) (by omega) (by simp) ?_; intro v3 w3 own gr loc; have O3 := hid own; have G3 := hid gr; clear own gr loc; have B3 := hid (B2.out.grown G3.out B2.out.size (by rintro z ⟨⟩; exact hKw)); have y1 := (B3.out.cell (p := ⟨b2, f2 + k * 2, none⟩) hb2).trans c1; have y2 := (B3.out.cell (p := ⟨b2, f2 + k * 2 + 1, none⟩) hb2).trans c2; have hw3 := G3.out.size; have OB3 := hid (own_at O3.out); have B4 := hid (B3.out.alloc B3.out.size (.cells #[.string x, .int .i64 kx] 73)); clear OWN S1) | (at_builtin; refine wpList_append_src rfl _ _ 24 rfl W6.heap.size 73 i0 (.agg #[.string ⟨#[]⟩, .int .i64 0]) 2 24 Try.underlying24 hi hz0 hz1 hz2 rfl (by decide) v3 (0 + k) _ rfl (O3.out.alloc _) (some ⟨w3.heap.size, 0, none⟩) 1 1 [.string x, .int .i64 kx] rfl (src_row x kx _) (by unfold maxLen; omega) (by omega) (by simp at hw3 ⊢; omega) ?_; intro v5 w5 own gr loc; have O5 := hid own; have G5 := hid gr; clear own gr loc; have B5 := hid (B4.out.grown G5.out B4.out.size (fun z hz => by have := OB3.out z hz; omega)); have BX5 := hid (show Below W6.heap.size W6 w5 from (((BX3 G3.out).alloc (by simp at hw3; omega) _).grown G5.out (by simp at hw3 ⊢; omega) (fun z hz => OB3.out z hz))); have OB5 := hid (own_at O5.out); have hw5 := G5.out.size; have S2 := hid (show Src w5 (some ⟨go, oo + k * 2, none⟩) 0 (co - k) 2 (rv (so.drop k)) from by rw [List.drop_of_length_le (by omega)]; exact ⟨rfl, (by simp [rv]), (fun h => by cases h), (fun _ _ z u hu => by simp [rv] at hu)⟩); clear O3 y1 y2) | (at_builtin; refine wpList_append_src rfl _ _ 24 rfl W6.heap.size 73 i0 (.agg #[.string ⟨#[]⟩, .int .i64 0]) 2 24 Try.underlying24 hi hz0 hz1 hz2 rfl (by decide) v5 (0 + k + 1) _ rfl O5.out (some ⟨go, oo + k * 2, none⟩) 0 (co - k) (rv (so.drop k)) rfl S2.out (by unfold maxLen; omega) (by omega) (by simp at hw3 hw5 ⊢; omega) ?_; intro v7 w7 own gr loc; have O7 := hid own; have G7 := hid gr; clear own gr loc; have B7 := hid (B5.out.grown G7.out B5.out.size (fun z hz => by have := OB5.out z hz; omega)); clear O5 S2))
                        have O8 := hid (show w7.ownsRow W6.heap.size 73 2 v7 (k + 1) (rv (so.take k ++ (x, kx) :: so.drop k)) from by
                          have := O7.out
                          rw [List.nil_append, rv_snoc, rv_append, List.append_assoc, show 0 + k + 1 + 0 = k + 1 by omega] at this
                          exact this)
                        obtain ⟨a', c', rfl, hq⟩ := Rw.ofOwn O8.out
                        obtain ⟨g', rfl⟩ := own_addr_some O8.out (by omega)
                        have HQ8 := hid hq
                        have HI8 := hid (hi_own O8.out)
                        clear hq O7 O8
                        go_roundg (ns - (k + 1))
                        case measure => omega
                        case rel =>
                          refine ⟨k + 1, g', 0, c', _, rfl, rfl, by go_num, by omega, HQ8, hid ?_, hid ((HI.out k hk HK.out HE.out).1), hid ((HI.out k hk HK.out HE.out).2), B7⟩
                          have := HI8.out _ _ _ rfl
                          omega
                · obtain rfl : j = ns := by omega
                  have l1 : ¬ (j : Int) < j := by omega
                  have R5 := hid (HR3.out.below HB.out hR4)
                  have T5 := hid (HTs.out.below HB.out)
                  have B5 := hid (HB3.out.trans (HB.out.mono HB3.out.size))
                  have HS := hid (show Vc.SpIs sp so from ⟨by have := HPm.out; rwa [List.take_of_length_le (by omega)] at this, HUp.out⟩)
                  have hg5 := HGo.out
                  go_wp2_with fail
                  refine (rmayTokens_calls T5.out).mono ?_
                  rintro e w8 ⟨⟨t, rfl, ht⟩, b8⟩
                  have R8 := hid (R5.out.below b8 R5.out.lt)
                  have T8 := hid (T5.out.below b8)
                  have O8 := hid (HO.out.below b8)
                  have B8 := hid (B5.out.trans (b8.mono B5.out.size))
                  have HMt := hid ht
                  clear b8 ht R5 T5 B5
                  have Mw := hid (mut_three w8 w.heap.size (.slice (some ⟨w.heap.size + 1, 0, none⟩) N2 N2) (.slice none 0 0) (.slice (some ⟨go, oo, none⟩) j co) (S := fun i => i = w.heap.size) rfl)
                  have T9 := hid (T8.out.mut Mw.out (hi_some (Nat.le_refl (w.heap.size + 1))) (fun i hi => by omega))
                  have O9 := hid (O8.out.mut Mw.out (hi_some (N := w.heap.size + 1) (by omega)) (fun i hi => by omega))
                  obtain ⟨y1, y2, y3⟩ := ret_three R8.out (.slice (some ⟨w.heap.size + 1, 0, none⟩) N2 N2) (.slice none 0 0) (.slice (some ⟨go, oo, none⟩) j co)
                  have BB := hid (below_three B8.out (R := w.heap.size) (Nat.le_refl _) (.slice (some ⟨w.heap.size + 1, 0, none⟩) N2 N2) (.slice none 0 0) (.slice (some ⟨go, oo, none⟩) j co))
                  have p0 := R8.out.cell0
                  have p1 := R8.out.cell1
                  have p2 := R8.out.cell2
                  have q0 := R8.out.fr 0
                  have q1 := R8.out.fr 1
                  have q2 := R8.out.fr 2
                  have u1 := y1.cell1
                  have v1 := y1.fr 1
                  have u2 := y2.cell2
                  have v2 := y2.fr 2
                  have r0 := y3.cell0
                  have r1 := y3.cell1
                  have r2 := y3.cell2
                  unfold three at r0 r1 r2
                  clear y1 y2 y3
                  go_wp2_with fail
                  refine bodyPost_ret (v := .tuple #[.agg #[.slice (some ⟨w.heap.size + 1, 0, none⟩) N2 N2, .slice none 0 0, .slice (some ⟨go, oo, none⟩) j co], .bool t]) (by simp [results, Try.results55, go_sem, r0, r1, r2]) rfl ?_
                  exact ⟨.inl ⟨HRk.out, ts, so, w.heap.size + 1, some ⟨go, oo, none⟩, j, co, t, ⟨by omega, hi_some (by omega)⟩, HTk.out, HMt.out, HS.out, by rw [HL.out], by rw [HL.out]; exact T9.out, O9.out⟩, BB.out⟩
  end Go.Proofs.Ytcjakjmhghoilaa

/-
  A merge put among others, rising; the walk of the reference's put.
-/
namespace Go.Proofs.Ytcjakjmhghoilaa
open Go.RowKit Go.Maps
set_option linter.unusedVariables false

/-- A merge put among others. -/
def Vc.Ins (ms : List Mg4) (m : Mg4) (out : List Mg4) : Prop :=
  ∃ k, k ≤ ms.length ∧ out = ms.take k ++ m :: ms.drop k ∧ (∀ i, i < k → Vc.Ahead (mat ms i) m) ∧ (k < ms.length → ¬ Vc.Ahead (mat ms k) m)
theorem Vc.Ins.perm {ms : List Mg4} {m : Mg4} {out : List Mg4} (h : Vc.Ins ms m out) : out.Perm (m :: ms) := by
  obtain ⟨k, _, rfl, _⟩ := h
  exact ins_perm ms m k
theorem Vc.Ins.up {ms : List Mg4} {m : Mg4} {out : List Mg4} (h : Vc.Ins ms m out) (hs : ms.Pairwise (fun a b => ¬ Vc.Ahead b a)) : out.Pairwise (fun a b => ¬ Vc.Ahead b a) := by
  obtain ⟨k, hk, rfl, h1, h2⟩ := h
  refine ins_sorted Vc.Ahead hs (fun a ha => ?_) (fun b hb => ?_)
  · obtain ⟨i, hi, rfl⟩ := List.mem_iff_getElem.1 ha
    have hi' : i < k := by rw [List.length_take] at hi; omega
    have h3 := h1 i hi'
    have e : (ms.take k)[i] = mat ms i := by simp [mat, show i < ms.length by omega]
    rw [e]
    exact fun h4 => Vc.Ahead.irrefl _ (h3.trans h4)
  · obtain ⟨i, hi, rfl⟩ := List.mem_iff_getElem.1 hb
    rw [List.length_drop] at hi
    have h3 := h2 (by omega)
    have e : (ms.drop k)[i] = mat ms (k + i) := by simp [mat, show k + i < ms.length by omega]
    rw [e]
    by_cases h0 : i = 0
    · subst h0; exact h3
    · have h4 := (List.pairwise_iff_getElem.1 hs) k (k + i) (by omega) (by omega) (by omega)
      have e1 : ms[k] = mat ms k := by simp [mat, show k < ms.length by omega]
      have e2 : ms[k + i] = mat ms (k + i) := by simp [mat, show k + i < ms.length by omega]
      rw [e1, e2] at h4
      exact ahead_ntrans h4 h3

theorem Qw.src {w : World} {a : Option Addr} {n cap : Nat} {xs : List Mg4} (h : Qw w a n cap xs) : Src w a n cap 4 (mv xs) :=
  ⟨by rw [mv_length, h.len], mv_one xs, h.nil, fun ad ha j u hu => by
    obtain ⟨i, hi, hc⟩ := mv_inv hu
    have hn : i < n := by rw [← h.len]; exact hi
    obtain ⟨b, off, hab, _, hcell⟩ := h.at' (by omega)
    rw [ha] at hab
    cases hab
    rw [Addr.add_lit]
    obtain ⟨c0, c1, c2, c3⟩ := hcell i hn
    rcases hc with ⟨rfl, rfl⟩ | ⟨rfl, rfl⟩ | ⟨rfl, rfl⟩ | ⟨rfl, rfl⟩
    · exact c0
    · rwa [Nat.add_assoc] at c1
    · rwa [Nat.add_assoc] at c2
    · rwa [Nat.add_assoc] at c3⟩
theorem qw_drop {w : World} {b off n cap : Nat} {xs : List Mg4} (h : Qw w (some ⟨b, off, none⟩) n cap xs) (k : Nat) (hk : k ≤ n) : Qw w (some ⟨b, off + k * 4, none⟩) (n - k) (cap - k) (xs.drop k) :=
  ⟨by rw [List.length_drop, h.len], by have := h.le; omega, by have := h.mx; omega, fun e => absurd e (by simp), fun h0 => by
    obtain ⟨b', off', e, hlt, hc⟩ := h.at' (by omega)
    cases e
    refine ⟨b, off + k * 4, rfl, hlt, fun i hi => ?_⟩
    have q := hc (k + i) (by omega)
    have e1 : mat (xs.drop k) i = mat xs (k + i) := by simp [mat, List.getD_eq_getElem?_getD]
    have e2 : off + (k + i) * 4 = off + k * 4 + i * 4 := by omega
    rw [e1, ← e2]
    exact q⟩

set_option maxRecDepth 100000 in
set_option maxHeartbeats 6400000 in
theorem rput_calls {w : World} {a : Option Addr} {n c : Nat} {ms : List Mg4} (Q : Qw w a n c ms) (ha : a = none ∨ ∃ b off, a = some ⟨b, off, none⟩) (hn : n ≤ 1000000) (m0 m1 m2 m3 : Int) :
    Calls Try.prog 56 #[.slice a n c, .agg #[.int .i64 m0, .int .i64 m1, .int .i64 m2, .int .i64 m3]] w fun e w' => (∃ a' c' out, e = .returned (.slice a' (n + 1) c') ∧ Vc.Ins ms (m0, m1, m2, m3) out ∧ Qw w' a' (n + 1) c' out ∧ (Hi w.heap.size a' ∧ (a' = none ∨ ∃ b off, a' = some ⟨b, off, none⟩))) ∧ Below w.heap.size w w' := by
  have hl := Q.len
  have hle := Q.le
  have hmx := Q.mx
  have QW := hid Q
  clear Q
  obtain ⟨i0, hi, hz0, hz1, hz2⟩ := info_parts Try.infoMg
  have B0 := hid ((Below.refl w.heap.size w).alloc (Nat.le_refl _) (.cells #[.int .i64 m0, .int .i64 m1, .int .i64 m2, .int .i64 m3] 50))
  have X0 := hid (Bx4.new w 50 (.int .i64 m0) (.int .i64 m1) (.int .i64 m2) (.int .i64 m3))
  go_enter Try.func56, Try.ntmps56
  go_wp2_with fail
  go_loopg [5] (n + 1) (fun r iv wr => ∃ k : Nat, r = n + 1 - k ∧ iv = .int .i64 (k : Int) ∧ k ≤ n ∧ Hid (∀ i, i < k → Vc.Ahead (mat ms i) (m0, m1, m2, m3)) ∧ Hid (Bx4 wr w.heap.size 50 (.int .i64 m0) (.int .i64 m1) (.int .i64 m2) (.int .i64 m3)) ∧ Hid (Below w.heap.size w wr))
  case atStart => exact ⟨0, rfl, rfl, by omega, hid (fun i hi => by omega), X0, B0⟩
  case round =>
    obtain ⟨k, rfl, rfl, hk, HA, HX, HB⟩ := hrel
    have y0 := fun d os => cell_regrown HX.out.cell0 d os
    have y1 := fun d os => cell_regrown HX.out.cell1 d os
    have y2 := fun d os => cell_regrown HX.out.cell2 d os
    have y3 := fun d os => cell_regrown HX.out.cell3 d os
    have g0 : (0 : Int) ≤ k := by omega
    have g3 : (k : Int) ≤ c := by omega
    have g4 : (k : Int) ≤ n := by omega
    have X2 := hid (fun d os => HX.out.below (below_regrown wr d os) HX.out.lt)
    have B2 := hid (fun d os => HB.out.trans ((below_regrown wr d os).mono HB.out.size))
    by_cases hlt : k < n
    · have g1 : (k : Int) < n := by omega
      have g2 : IntKind.i64.wrap ((k : Int) + 1) = k + 1 := i64_in (by omega) (by omega)
      obtain ⟨b, off, rfl, hbl, hc⟩ := (QW.out.below HB.out).at' (by omega)
      obtain ⟨p0, p1, p2, p3⟩ := hc k hlt
      obtain ⟨⟨x0, x1, x2, x3⟩, hx⟩ : ∃ x, mat ms k = x := ⟨_, rfl⟩
      rw [hx] at p0 p1 p2 p3
      have z0 := fun d os => cell_regrown p0 d os
      have z1 := fun d os => cell_regrown p1 d os
      have z2 := fun d os => cell_regrown p2 d os
      have z3 := fun d os => cell_regrown p3 d os
      have HQ := hid hx
      clear hc hx p0 p1 p2 p3
      obtain ⟨t, ht⟩ : ∃ t : Bool, t = true ↔ Vc.Ahead (x0, x1, x2, x3) (m0, m1, m2, m3) := by
        by_cases h : Vc.Ahead (x0, x1, x2, x3) (m0, m1, m2, m3)
        · exact ⟨true, by simp [h]⟩
        · exact ⟨false, by simp [h]⟩
      have cA := fun d os => Calls.regrown_of (says_is (rahead_calls x0 x1 x2 x3 m0 m1 m2 m3 (Sort.grow (redrawn wr d) os)) ht)
      have HT := hid ht
      clear ht
      cases t
      · go_wp2_with fail
        refine wp_region_quiet_below (by kernel_rfl) (by kernel_rfl) ?_
        repeat (any_goals (first | go_big_quiet_step (exact cA _ _) | quiet_step (exact cA _ _)))
        refine wpQuiet_nil ?_
        intro w1 hw'
        obtain ⟨⟨dq, osq⟩, hw''⟩ := hw'
        have X1 := hid (X2.out dq osq)
        have B1 := hid (B2.out dq osq)
        rw [← hw''] at X1 B1
        have HE := hid (show k < ms.length → ¬ Vc.Ahead (mat ms k) (m0, m1, m2, m3) from fun _ h => by rw [HQ.out] at h; exact absurd (HT.out.2 h) (by decide))
        clear hw'' X2 B2 HX HB y0 y1 y2 y3 z0 z1 z2 z3 cA
        have hKw := B1.out.size
        have hXl := X1.out.lt
        have B2 := hid (B1.out.alloc B1.out.size (.cells #[] 50))
        have X2 := hid (X1.out.alloc (.cells #[] 50))
        have S1 := hid ((QW.out.below B2.out).first k hk).src
        have OWN := hid (World.ownsRow_made (e := 50) (size := 4) w1 #[] 0 (Nat.le_refl _) (Nat.zero_le _) (by simp))
        go_wp2_with (first | (at_builtin; refine wpList_append_src rfl _ _ 23 rfl w1.heap.size 50 i0 (.agg #[.int .i64 0, .int .i64 0, .int .i64 0, .int .i64 0]) 4 32 Try.underlying23 hi hz0 hz1 hz2 rfl (by decide) _ _ _ rfl OWN.out (some ⟨b, off, none⟩) k c (mv (ms.take k)) rfl S1.out (by unfold maxLen; omega) (by omega) (by simp) ?_; intro v3 w3 own gr loc; have O3 := hid own; have G3 := hid gr; clear own gr loc; have B3 := hid (B2.out.grown G3.out B2.out.size (by rintro q ⟨⟩; exact hKw)); have X3 := hid (X2.out.kept G3.out (fun h => absurd (show w.heap.size = w1.heap.size from Option.some.inj h) (by omega))); have hw3 := G3.out.size; have y0 := X3.out.cell0; have y1 := X3.out.cell1; have y2 := X3.out.cell2; have y3 := X3.out.cell3; have OB3 := hid (own_at O3.out); have B4 := hid (B3.out.alloc B3.out.size (.cells #[.int .i64 m0, .int .i64 m1, .int .i64 m2, .int .i64 m3] 50)); clear OWN S1) | (at_builtin; refine wpList_append_src rfl _ _ 23 rfl w1.heap.size 50 i0 (.agg #[.int .i64 0, .int .i64 0, .int .i64 0, .int .i64 0]) 4 32 Try.underlying23 hi hz0 hz1 hz2 rfl (by decide) v3 (0 + k) _ rfl (O3.out.alloc _) (some ⟨w3.heap.size, 0, none⟩) 1 1 [.int .i64 m0, .int .i64 m1, .int .i64 m2, .int .i64 m3] rfl (src_merge m0 m1 m2 m3 _) (by unfold maxLen; omega) (by omega) (by simp at hw3 ⊢; omega) ?_; intro v5 w5 own gr loc; have O5 := hid own; have G5 := hid gr; clear own gr loc; have B5 := hid (B4.out.grown G5.out B4.out.size (fun q hq => by have := OB3.out q hq; omega)); have OB5 := hid (own_at O5.out); have hw5 := G5.out.size; have S2 := hid ((qw_drop (QW.out.below B5.out) k hk).src); clear O3 X3 y0 y1 y2 y3) | (at_builtin; refine wpList_append_src rfl _ _ 23 rfl w1.heap.size 50 i0 (.agg #[.int .i64 0, .int .i64 0, .int .i64 0, .int .i64 0]) 4 32 Try.underlying23 hi hz0 hz1 hz2 rfl (by decide) v5 (0 + k + 1) _ rfl O5.out (some ⟨b, off + k * 4, none⟩) (n - k) (c - k) (mv (ms.drop k)) rfl S2.out (by unfold maxLen; omega) (by omega) (by simp at hw3 hw5 ⊢; omega) ?_; intro v7 w7 own gr loc; have O7 := hid own; have G7 := hid gr; clear own gr loc; have B7 := hid (B5.out.grown G7.out B5.out.size (fun q hq => by have := OB5.out q hq; omega)); clear O5 S2))
        have O8 := hid (show w7.ownsRow w1.heap.size 50 4 v7 (n + 1) (mv (ms.take k ++ (m0, m1, m2, m3) :: ms.drop k)) from by
          have := O7.out
          rw [List.nil_append, mv_snoc, mv_append, List.append_assoc, show 0 + k + 1 + (n - k) = n + 1 by omega] at this
          exact this)
        obtain ⟨a', c', rfl, hq⟩ := Qw.ofOwn O8.out
        have HQ8 := hid hq
        have HI8 := hid ((hi_own O8.out).mono B1.out.size)
        have HA8 := hid (own_addr O8.out)
        clear hq O7 O8
        go_ret
        exact ⟨⟨a', c', _, rfl, ⟨k, by omega, rfl, HA.out, HE.out⟩, HQ8.out, HI8.out, HA8.out⟩, B7.out⟩
      · go_wp2_with fail
        refine wp_region_quiet_below (by kernel_rfl) (by kernel_rfl) ?_
        repeat (any_goals (first | go_big_quiet_step (exact cA _ _) | quiet_step (exact cA _ _)))
        refine wpQuiet_nil ?_
        intro w1 hw'
        obtain ⟨⟨dq, osq⟩, hw''⟩ := hw'
        have X1 := hid (X2.out dq osq)
        have B1 := hid (B2.out dq osq)
        rw [← hw''] at X1 B1
        have HR := hid (show ∀ i, i < k + 1 → Vc.Ahead (mat ms i) (m0, m1, m2, m3) from fun i hi => by
          by_cases h : i < k
          · exact HA.out i h
          · obtain rfl : i = k := by omega
            rw [HQ.out]; exact HT.out.1 (by first | rfl | trivial))
        clear hw'' X2 B2 HX HB y0 y1 y2 y3 z0 z1 z2 z3 cA
        go_wp2_with fail
        go_roundg (n + 1 - (k + 1))
        case measure => omega
        case rel => exact ⟨k + 1, rfl, by go_num, by omega, HR, X1, B1⟩
    · have g1 : ¬ (k : Int) < n := by omega
      have dg1 : decide ((k : Int) < n) = false := decide_eq_false g1
      have ng1 : ¬ k < n := hlt
      go_wp2_with fail
      refine wp_region_quiet_below (by kernel_rfl) (by kernel_rfl) ?_
      repeat (any_goals (first | go_big_quiet_step (fail) | quiet_step (fail)))
      refine wpQuiet_nil ?_
      intro w1 hw'
      obtain ⟨⟨dq, osq⟩, hw''⟩ := hw'
      have X1 := hid (X2.out dq osq)
      have B1 := hid (B2.out dq osq)
      rw [← hw''] at X1 B1
      have HE := hid (show k < ms.length → ¬ Vc.Ahead (mat ms k) (m0, m1, m2, m3) from fun h => by omega)
      clear hw'' X2 B2 HX HB y0 y1 y2 y3
      rcases ha with rfl | ⟨b, off, rfl⟩
      · obtain ⟨rfl, rfl⟩ := QW.out.nil rfl
        have hms : ms = [] := List.eq_nil_of_length_eq_zero hl
        subst hms
        obtain rfl : k = 0 := by omega
        have hKw := B1.out.size
        have hXl := X1.out.lt
        have B2 := hid (B1.out.alloc B1.out.size (.cells #[] 50))
        have X2 := hid (X1.out.alloc (.cells #[] 50))
        have S1 := hid ((QW.out.below B2.out).first 0 (Nat.le_refl _)).src
        have OWN := hid (World.ownsRow_made (e := 50) (size := 4) w1 #[] 0 (Nat.le_refl _) (Nat.zero_le _) (by simp))
        go_wp2_with (first | (at_builtin; refine wpList_append_src rfl _ _ 23 rfl w1.heap.size 50 i0 (.agg #[.int .i64 0, .int .i64 0, .int .i64 0, .int .i64 0]) 4 32 Try.underlying23 hi hz0 hz1 hz2 rfl (by decide) _ _ _ rfl OWN.out none 0 0 (mv ([] : List Mg4)) rfl S1.out (by unfold maxLen; omega) (by omega) (by simp) ?_; intro v3 w3 own gr loc; have O3 := hid own; have G3 := hid gr; clear own gr loc; have B3 := hid (B2.out.grown G3.out B2.out.size (by rintro q ⟨⟩; exact hKw)); have X3 := hid (X2.out.kept G3.out (fun h => absurd (show w.heap.size = w1.heap.size from Option.some.inj h) (by omega))); have hw3 := G3.out.size; have y0 := X3.out.cell0; have y1 := X3.out.cell1; have y2 := X3.out.cell2; have y3 := X3.out.cell3; have OB3 := hid (own_at O3.out); have B4 := hid (B3.out.alloc B3.out.size (.cells #[.int .i64 m0, .int .i64 m1, .int .i64 m2, .int .i64 m3] 50)); clear OWN S1) | (at_builtin; refine wpList_append_src rfl _ _ 23 rfl w1.heap.size 50 i0 (.agg #[.int .i64 0, .int .i64 0, .int .i64 0, .int .i64 0]) 4 32 Try.underlying23 hi hz0 hz1 hz2 rfl (by decide) v3 (0 + 0) _ rfl (O3.out.alloc _) (some ⟨w3.heap.size, 0, none⟩) 1 1 [.int .i64 m0, .int .i64 m1, .int .i64 m2, .int .i64 m3] rfl (src_merge m0 m1 m2 m3 _) (by unfold maxLen; omega) (by omega) (by simp at hw3 ⊢; omega) ?_; intro v5 w5 own gr loc; have O5 := hid own; have G5 := hid gr; clear own gr loc; have B5 := hid (B4.out.grown G5.out B4.out.size (fun q hq => by have := OB3.out q hq; omega)); have OB5 := hid (own_at O5.out); have hw5 := G5.out.size; have S2 := hid ((QW.out.below B5.out).src); clear O3 X3 y0 y1 y2 y3) | (at_builtin; refine wpList_append_src rfl _ _ 23 rfl w1.heap.size 50 i0 (.agg #[.int .i64 0, .int .i64 0, .int .i64 0, .int .i64 0]) 4 32 Try.underlying23 hi hz0 hz1 hz2 rfl (by decide) v5 (0 + 0 + 1) _ rfl O5.out none 0 0 (mv ([] : List Mg4)) rfl S2.out (by unfold maxLen; omega) (by omega) (by simp at hw3 hw5 ⊢; omega) ?_; intro v7 w7 own gr loc; have O7 := hid own; have G7 := hid gr; clear own gr loc; have B7 := hid (B5.out.grown G7.out B5.out.size (fun q hq => by have := OB5.out q hq; omega)); clear O5 S2))
        have O8 := hid (show w7.ownsRow w1.heap.size 50 4 v7 (0 + 1) (mv (([] : List Mg4) ++ (m0, m1, m2, m3) :: ([] : List Mg4))) from by
          have := O7.out
          rw [List.nil_append, mv_snoc, mv_append, List.append_assoc, show 0 + 0 + 1 + 0 = 0 + 1 by omega] at this
          exact this)
        obtain ⟨a', c', rfl, hq⟩ := Qw.ofOwn O8.out
        have HQ8 := hid hq
        have HI8 := hid ((hi_own O8.out).mono B1.out.size)
        have HA8 := hid (own_addr O8.out)
        clear hq O7 O8
        go_ret
        exact ⟨⟨a', c', _, rfl, ⟨0, Nat.le_refl _, rfl, HA.out, HE.out⟩, HQ8.out, HI8.out, HA8.out⟩, B7.out⟩
      · obtain rfl : k = n := by omega
        by_cases hck : k = c
        · subst hck
          have hKw := B1.out.size
          have hXl := X1.out.lt
          have B2 := hid (B1.out.alloc B1.out.size (.cells #[] 50))
          have X2 := hid (X1.out.alloc (.cells #[] 50))
          have S1 := hid ((QW.out.below B2.out).first k hk).src
          have OWN := hid (World.ownsRow_made (e := 50) (size := 4) w1 #[] 0 (Nat.le_refl _) (Nat.zero_le _) (by simp))
          go_wp2_with (first | (at_builtin; refine wpList_append_src rfl _ _ 23 rfl w1.heap.size 50 i0 (.agg #[.int .i64 0, .int .i64 0, .int .i64 0, .int .i64 0]) 4 32 Try.underlying23 hi hz0 hz1 hz2 rfl (by decide) _ _ _ rfl OWN.out (some ⟨b, off, none⟩) k k (mv (ms.take k)) rfl S1.out (by unfold maxLen; omega) (by omega) (by simp) ?_; intro v3 w3 own gr loc; have O3 := hid own; have G3 := hid gr; clear own gr loc; have B3 := hid (B2.out.grown G3.out B2.out.size (by rintro q ⟨⟩; exact hKw)); have X3 := hid (X2.out.kept G3.out (fun h => absurd (show w.heap.size = w1.heap.size from Option.some.inj h) (by omega))); have hw3 := G3.out.size; have y0 := X3.out.cell0; have y1 := X3.out.cell1; have y2 := X3.out.cell2; have y3 := X3.out.cell3; have OB3 := hid (own_at O3.out); have B4 := hid (B3.out.alloc B3.out.size (.cells #[.int .i64 m0, .int .i64 m1, .int .i64 m2, .int .i64 m3] 50)); clear OWN S1) | (at_builtin; refine wpList_append_src rfl _ _ 23 rfl w1.heap.size 50 i0 (.agg #[.int .i64 0, .int .i64 0, .int .i64 0, .int .i64 0]) 4 32 Try.underlying23 hi hz0 hz1 hz2 rfl (by decide) v3 (0 + k) _ rfl (O3.out.alloc _) (some ⟨w3.heap.size, 0, none⟩) 1 1 [.int .i64 m0, .int .i64 m1, .int .i64 m2, .int .i64 m3] rfl (src_merge m0 m1 m2 m3 _) (by unfold maxLen; omega) (by omega) (by simp at hw3 ⊢; omega) ?_; intro v5 w5 own gr loc; have O5 := hid own; have G5 := hid gr; clear own gr loc; have B5 := hid (B4.out.grown G5.out B4.out.size (fun q hq => by have := OB3.out q hq; omega)); have OB5 := hid (own_at O5.out); have hw5 := G5.out.size; have S2 := hid (show Src w5 (some ⟨b, off, none⟩) 0 0 4 (mv (ms.drop k)) from by rw [List.drop_of_length_le (by omega)]; exact ⟨rfl, (by simp [mv]), (fun h => by cases h), (fun _ _ j u hu => by simp [mv] at hu)⟩); clear O3 X3 y0 y1 y2 y3) | (at_builtin; refine wpList_append_src rfl _ _ 23 rfl w1.heap.size 50 i0 (.agg #[.int .i64 0, .int .i64 0, .int .i64 0, .int .i64 0]) 4 32 Try.underlying23 hi hz0 hz1 hz2 rfl (by decide) v5 (0 + k + 1) _ rfl O5.out (some ⟨b, off, none⟩) 0 0 (mv (ms.drop k)) rfl S2.out (by unfold maxLen; omega) (by omega) (by simp at hw3 hw5 ⊢; omega) ?_; intro v7 w7 own gr loc; have O7 := hid own; have G7 := hid gr; clear own gr loc; have B7 := hid (B5.out.grown G7.out B5.out.size (fun q hq => by have := OB5.out q hq; omega)); clear O5 S2))
          have O8 := hid (show w7.ownsRow w1.heap.size 50 4 v7 (k + 1) (mv (ms.take k ++ (m0, m1, m2, m3) :: ms.drop k)) from by
            have := O7.out
            rw [List.nil_append, mv_snoc, mv_append, List.append_assoc, show 0 + k + 1 + 0 = k + 1 by omega] at this
            exact this)
          obtain ⟨a', c', rfl, hq⟩ := Qw.ofOwn O8.out
          have HQ8 := hid hq
          have HI8 := hid ((hi_own O8.out).mono B1.out.size)
          have HA8 := hid (own_addr O8.out)
          clear hq O7 O8
          go_ret
          refine ⟨?_, B7.out⟩
          first
            | exact ⟨a', c', rfl, _, ⟨k, by omega, rfl, HA.out, HE.out⟩, HQ8.out, HI8.out, HA8.out⟩
            | exact ⟨a', c', _, rfl, ⟨k, by omega, rfl, HA.out, HE.out⟩, HQ8.out, HI8.out, HA8.out⟩
        · have hck2 : ¬ c = k := fun h => hck h.symm
          have hKw := B1.out.size
          have hXl := X1.out.lt
          have B2 := hid (B1.out.alloc B1.out.size (.cells #[] 50))
          have X2 := hid (X1.out.alloc (.cells #[] 50))
          have S1 := hid ((QW.out.below B2.out).first k hk).src
          have OWN := hid (World.ownsRow_made (e := 50) (size := 4) w1 #[] 0 (Nat.le_refl _) (Nat.zero_le _) (by simp))
          go_wp2_with (first | (at_builtin; refine wpList_append_src rfl _ _ 23 rfl w1.heap.size 50 i0 (.agg #[.int .i64 0, .int .i64 0, .int .i64 0, .int .i64 0]) 4 32 Try.underlying23 hi hz0 hz1 hz2 rfl (by decide) _ _ _ rfl OWN.out (some ⟨b, off, none⟩) k c (mv (ms.take k)) rfl S1.out (by unfold maxLen; omega) (by omega) (by simp) ?_; intro v3 w3 own gr loc; have O3 := hid own; have G3 := hid gr; clear own gr loc; have B3 := hid (B2.out.grown G3.out B2.out.size (by rintro q ⟨⟩; exact hKw)); have X3 := hid (X2.out.kept G3.out (fun h => absurd (show w.heap.size = w1.heap.size from Option.some.inj h) (by omega))); have hw3 := G3.out.size; have y0 := X3.out.cell0; have y1 := X3.out.cell1; have y2 := X3.out.cell2; have y3 := X3.out.cell3; have OB3 := hid (own_at O3.out); have B4 := hid (B3.out.alloc B3.out.size (.cells #[.int .i64 m0, .int .i64 m1, .int .i64 m2, .int .i64 m3] 50)); clear OWN S1) | (at_builtin; refine wpList_append_src rfl _ _ 23 rfl w1.heap.size 50 i0 (.agg #[.int .i64 0, .int .i64 0, .int .i64 0, .int .i64 0]) 4 32 Try.underlying23 hi hz0 hz1 hz2 rfl (by decide) v3 (0 + k) _ rfl (O3.out.alloc _) (some ⟨w3.heap.size, 0, none⟩) 1 1 [.int .i64 m0, .int .i64 m1, .int .i64 m2, .int .i64 m3] rfl (src_merge m0 m1 m2 m3 _) (by unfold maxLen; omega) (by omega) (by simp at hw3 ⊢; omega) ?_; intro v5 w5 own gr loc; have O5 := hid own; have G5 := hid gr; clear own gr loc; have B5 := hid (B4.out.grown G5.out B4.out.size (fun q hq => by have := OB3.out q hq; omega)); have OB5 := hid (own_at O5.out); have hw5 := G5.out.size; have S2 := hid (show Src w5 (some ⟨b, off + k * 4, none⟩) 0 (c - k) 4 (mv (ms.drop k)) from by rw [List.drop_of_length_le (by omega)]; exact ⟨rfl, (by simp [mv]), (fun h => by cases h), (fun _ _ j u hu => by simp [mv] at hu)⟩); clear O3 X3 y0 y1 y2 y3) | (at_builtin; refine wpList_append_src rfl _ _ 23 rfl w1.heap.size 50 i0 (.agg #[.int .i64 0, .int .i64 0, .int .i64 0, .int .i64 0]) 4 32 Try.underlying23 hi hz0 hz1 hz2 rfl (by decide) v5 (0 + k + 1) _ rfl O5.out (some ⟨b, off + k * 4, none⟩) 0 (c - k) (mv (ms.drop k)) rfl S2.out (by unfold maxLen; omega) (by omega) (by simp at hw3 hw5 ⊢; omega) ?_; intro v7 w7 own gr loc; have O7 := hid own; have G7 := hid gr; clear own gr loc; have B7 := hid (B5.out.grown G7.out B5.out.size (fun q hq => by have := OB5.out q hq; omega)); clear O5 S2))
          have O8 := hid (show w7.ownsRow w1.heap.size 50 4 v7 (k + 1) (mv (ms.take k ++ (m0, m1, m2, m3) :: ms.drop k)) from by
            have := O7.out
            rw [List.nil_append, mv_snoc, mv_append, List.append_assoc, show 0 + k + 1 + 0 = k + 1 by omega] at this
            exact this)
          obtain ⟨a', c', rfl, hq⟩ := Qw.ofOwn O8.out
          have HQ8 := hid hq
          have HI8 := hid ((hi_own O8.out).mono B1.out.size)
          have HA8 := hid (own_addr O8.out)
          clear hq O7 O8
          go_ret
          refine ⟨?_, B7.out⟩
          first
            | exact ⟨a', c', rfl, _, ⟨k, by omega, rfl, HA.out, HE.out⟩, HQ8.out, HI8.out, HA8.out⟩
            | exact ⟨a', c', _, rfl, ⟨k, by omega, rfl, HA.out, HE.out⟩, HQ8.out, HI8.out, HA8.out⟩
end Go.Proofs.Ytcjakjmhghoilaa

/-
  Walk of the reference's FromRows.
-/
namespace Go.Proofs.Ytcjakjmhghoilaa
open Go.RowKit Go.Maps
set_option linter.unusedVariables false

/-- The number of a token, or -1. -/
def Vc.ofZ (ts : Vc.Toks) (s : ByteArray) : Int := match Vc.num ts s with | some k => (k : Int) | none => -1
theorem of_num {ts : Vc.Toks} {s : ByteArray} {r : Int} (hT : Vc.MayT ts) (h : Vc.OfIs ts s r) : r = Vc.ofZ ts s := by
  unfold Vc.ofZ
  rcases h with ⟨h0, rfl⟩ | ⟨h0, ⟨j, rfl, hj, he, hf⟩ | ⟨rfl, hf⟩⟩
  · cases hk : Vc.num ts s with
    | none => rfl
    | some k => exact absurd h0 (Vc.num_some hk).2.2
  · have := Vc.num_at hT hj (by rw [he]; exact h0)
    rw [he] at this
    rw [this]
  · cases hk : Vc.num ts s with
    | none => rfl
    | some k => exact absurd (Vc.num_some hk).2.1 (hf k (Vc.num_some hk).1)
theorem ofZ_ways (ts : Vc.Toks) (s : ByteArray) : (∃ k : Nat, Vc.num ts s = some k ∧ Vc.ofZ ts s = k ∧ k < ts.length) ∨ (Vc.num ts s = none ∧ Vc.ofZ ts s = -1) := by
  unfold Vc.ofZ
  cases hk : Vc.num ts s with
  | none => exact .inr ⟨rfl, rfl⟩
  | some k => exact .inl ⟨k, rfl, rfl, (Vc.num_some hk).1⟩
theorem rofZ_calls {w : World} {a : Option Addr} {n c : Nat} {ts : Vc.Toks} (V : Ts w a n c ts) (hT : Vc.MayT ts) (s : ByteArray) :
    Calls Try.prog 18 #[.slice a n c, .string s] w fun e w' => e = .returned (.int .i64 (Vc.ofZ ts s)) ∧ w' = w := by
  refine (rof_calls V s).mono ?_
  rintro e w1 ⟨⟨r, rfl, hr⟩, rfl⟩
  exact ⟨by rw [of_num hT hr], rfl⟩
theorem sp_small {sp sp' : Vc.Sps} {N : Nat} (h : Vc.SpIs sp sp') (hz : ∀ i, i < sp.length → (tat sp i).size ≤ N) (i : Nat) (hi : i < sp'.length) : (tat sp' i).size ≤ N := by
  obtain ⟨k, hk, he, _⟩ := mem_row (h.perm.mem_iff.1 (row_mem hi))
  have := hz k hk
  rw [he] at this
  exact this

/-- What the reference's FromRows answers. -/
def RfOut (rs sp : Vc.Sps) (e : Ending) (w' : World) : Prop :=
  (∃ ts ms sp' a n c am nm cm az ns cs, Vc.FromIs rs sp ts ms sp' ∧ e = .returned (.tuple #[.agg #[.slice a n c, .slice am nm cm, .slice az ns cs], .bool true]) ∧ Vo w' a n c am nm cm az ns cs ts ms sp') ∨
  (Vc.NoFrom rs sp ∧ e = .returned (.tuple #[.agg #[.slice none 0 0, .slice none 0 0, .slice none 0 0], .bool false]))

set_option maxRecDepth 100000 in
set_option maxHeartbeats 6400000 in
theorem rfromRows_calls {w : World} {a az : Option Addr} {n c ns cs : Nat} {rs sp : Vc.Sps} (V : Rw w a n c rs) (Q : Rw w az ns cs sp) (hn : n ≤ 1000) (hns : ns ≤ 1000) (hzs : ∀ i, i < sp.length → (tat sp i).size ≤ 1000000) :
    Calls Try.prog 40 #[.slice a n c, .slice az ns cs] w fun e w' => RfOut rs sp e w' ∧ Below w.heap.size w w' := by
  have B0 := hid ((Below.refl w.heap.size w).alloc (Nat.le_refl _) (.cells #[.slice none 0 0, .slice none 0 0, .slice none 0 0] 26))
  have R0 := hid (Bx3.new w 26 (.slice none 0 0) (.slice none 0 0) (.slice none 0 0))
  have s0 : (w.alloc (.cells #[.slice none 0 0, .slice none 0 0, .slice none 0 0] 26)).heap.size = w.heap.size + 1 := by simp
  have V0 := hid (V.below B0.out)
  have Q0 := hid (Q.below B0.out)
  have HZs := hid hzs
  clear V Q hzs
  go_enter Try.func40, Try.ntmps40
  go_wp2_with fail
  refine (rbase_calls V0.out Q0.out hn hns).mono ?_
  rintro e w1 ⟨E1, b1⟩
  have R1 := hid (R0.out.below b1 R0.out.lt)
  have B1 := hid (B0.out.trans (b1.mono B0.out.size))
  have hw1 := b1.size
  rw [s0] at E1 hw1
  clear b1 B0 R0 V0 Q0
  rcases E1 with ⟨hR, ts, sp', b, z1, zn, zc, t, ⟨hb, hzh⟩, hT, hM, hS, rfl, hTs, hRs⟩ | ⟨hno, rfl⟩
  · obtain ⟨N, hN⟩ : ∃ N, ts.length = N := ⟨_, rfl⟩
    have HN := hid hN
    have HT := hid hT
    rw [hN] at hTs ⊢
    clear hN
    have R2 := hid (R1.out.alloc (.cells #[.slice (some ⟨b, 0, none⟩) N N, .slice none 0 0, .slice z1 zn zc] 26))
    have B2 := hid (B1.out.alloc B1.out.size (.cells #[.slice (some ⟨b, 0, none⟩) N N, .slice none 0 0, .slice z1 zn zc] 26))
    cases t
    · have HF := hid (Vc.noFrom_tok hT (fun h => absurd (hM.2 h) (by decide)))
      clear hR hT hM hS hTs hRs hzh
      obtain ⟨y1, y2, y3⟩ := ret_three R2.out (.slice none 0 0) (.slice none 0 0) (.slice none 0 0)
      have BB := hid (below_three B2.out (R := w.heap.size) (Nat.le_refl _) (.slice none 0 0) (.slice none 0 0) (.slice none 0 0))
      have p0 := R2.out.cell0
      have p1 := R2.out.cell1
      have p2 := R2.out.cell2
      have q0 := R2.out.fr 0
      have q1 := R2.out.fr 1
      have q2 := R2.out.fr 2
      have u1 := y1.cell1
      have v1 := y1.fr 1
      have u2 := y2.cell2
      have v2 := y2.fr 2
      have r0 := y3.cell0
      have r1 := y3.cell1
      have r2 := y3.cell2
      unfold three at r0 r1 r2
      clear y1 y2 y3
      go_wp2_with fail
      refine bodyPost_ret (v := .tuple #[.agg #[.slice none 0 0, .slice none 0 0, .slice none 0 0], .bool false]) (by simp [results, Try.results40, go_sem, r0, r1, r2]) rfl ?_
      exact ⟨.inr ⟨HF.out, rfl⟩, BB.out⟩
    · have hMT := hM.1 rfl
      have HM := hid hMT
      have HR := hid hR
      have HS := hid hS
      have T1 := hid hTs
      have Q1 := hid hRs
      have HH := hid hzh
      have Hb := hid (show Hi (w.heap.size + 1) (some ⟨b, 0, none⟩) from hi_some hb)
      have hN4 : N ≤ 4096 := by rw [← HN.out]; exact hMT.len
      have HZ := hid hMT.sz
      clear hR hT hM hS hTs hRs hzh hMT
      obtain ⟨K, hK⟩ : ∃ K, w1.heap.size = K := ⟨_, rfl⟩
      have X2 := hid (Bx3.new w1 26 (.slice (some ⟨b, 0, none⟩) N N) (.slice none 0 0) (.slice z1 zn zc))
      have C2 := hid ((Below.refl w1.heap.size w1).alloc (Nat.le_refl _) (.cells #[.slice (some ⟨b, 0, none⟩) N N, .slice none 0 0, .slice z1 zn zc] 26))
      have M2 := hid (Qw.none (w1.alloc (.cells #[.slice (some ⟨b, 0, none⟩) N N, .slice none 0 0, .slice z1 zn zc] 26)) 0 none (Nat.zero_le _) (fun _ => rfl))
      have x0 := X2.out.cell0
      rw [hK] at X2 hw1 x0
      have hKb := Hb.out _ _ _ rfl
      go_wp2_with fail
      try rw [hK]
      go_loopg [25] N (fun r iv wr => ∃ (j nm cm : Nat) (am : Option Addr) (ms : List Mg4), r = N - j ∧ iv = .int .i64 (j : Int) ∧ j ≤ N ∧ Hid (ms.Perm (Vc.cutsL ts j)) ∧ Hid (ms.Pairwise (fun a b => ¬ Vc.Ahead b a)) ∧ Hid (Qw wr am nm cm ms) ∧ Hid (Hi (K + 1) am ∧ (am = none ∨ ∃ b off, am = some ⟨b, off, none⟩)) ∧ Hid (Bx3 wr K 26 (.slice (some ⟨b, 0, none⟩) N N) (.slice am nm cm) (.slice z1 zn zc)) ∧ Hid (Below K w1 wr))
      case atStart => exact ⟨0, 0, 0, none, [], rfl, rfl, by omega, hid (List.Perm.refl _), hid List.Pairwise.nil, M2, hid ⟨hi_none _, .inl rfl⟩, X2, by rw [← hK]; exact C2⟩
      case round =>
        obtain ⟨j, nm, cm, am, ms, rfl, rfl, hj, HP, HU, HQ, HA, HX, HB⟩ := hrel
        obtain ⟨W3, hW3⟩ : ∃ W3, W3 = wr := ⟨_, rfl⟩
        subst hW3
        have hm := HQ.out.len
        have x0 := HX.out.cell0
        by_cases hlt : j < N
        · have l0 : (0 : Int) ≤ j := by omega
          have l1 : (j : Int) < N := by omega
          have l2 : IntKind.i64.wrap ((j : Int) + 1) = j + 1 := i64_in (by omega) (by omega)
          have T3 := hid (T1.out.below (hK ▸ HB.out))
          obtain ⟨b', off', hbe, hbl, hc⟩ := T3.out.at' (by omega)
          cases hbe
          have q1 : W3.cell? ⟨b, j, none⟩ = some (.string (at_ ts j)) := by have := hc j hlt; rwa [Nat.zero_add] at this
          have hzj := HZ.out j (by have := HN.out; omega)
          have hcl := Vc.cutsL_len (ts := ts) HZ.out j (by have := HN.out; omega)
          obtain ⟨s, hs⟩ : ∃ s, at_ ts j = s := ⟨_, rfl⟩
          rw [hs] at q1 hzj
          have HSs := hid hs
          clear hc hs
          obtain ⟨m, hsm⟩ : ∃ m, s.size = m := ⟨_, rfl⟩
          rw [hsm] at hzj
          go_wp2_with fail
          go_loopg [10] m (fun r iv wr => ∃ (k nm cm : Nat) (am : Option Addr) (ms : List Mg4), r = m - k ∧ iv = .int .i64 ((k : Int) + 1) ∧ k ≤ m ∧ (m = 0 ∧ k = 0 ∨ k + 1 ≤ m) ∧ Hid (ms.Perm (Vc.cutsL ts j ++ Vc.cutsTo ts j k)) ∧ Hid (ms.Pairwise (fun a b => ¬ Vc.Ahead b a)) ∧ Hid (Qw wr am nm cm ms) ∧ Hid (Hi (K + 1) am ∧ (am = none ∨ ∃ b off, am = some ⟨b, off, none⟩)) ∧ Hid (Bx3 wr K 26 (.slice (some ⟨b, 0, none⟩) N N) (.slice am nm cm) (.slice z1 zn zc)) ∧ Hid (Below K w1 wr))
          case atStart => exact ⟨0, nm, cm, am, ms, rfl, rfl, by omega, by omega, by simpa [Vc.cutsTo] using HP, HU, HQ, HA, HX, HB⟩
          case round =>
            clear HP HU HQ HA HX HB hm x0 T3
            obtain ⟨k, nm, cm, am, ms, rfl, rfl, hk, hk2, HP, HU, HQ, HA, HX, HB⟩ := hrel
            obtain ⟨W4, hW4⟩ : ∃ W4, W4 = wr := ⟨_, rfl⟩
            subst hW4
            have hm := HQ.out.len
            have x0 := HX.out.cell0
            have hct := Vc.cutsTo_len ts j k
            by_cases hlt2 : k + 1 < m
            · have g1 : (k : Int) + 1 < m := by omega
              have g0 : (0 : Int) ≤ (k : Int) + 1 := by omega
              have g2 : IntKind.i64.wrap ((k : Int) + 1 + 1) = k + 1 + 1 := i64_in (by omega) (by omega)
              have g3 : (k : Int) + 1 ≤ m := by omega
              have T4 := hid (T1.out.below (hK ▸ HB.out))
              have QF := hid (fun q s => rofZ_calls (T4.out.below (below_drewN (Below.refl _ _) q)) HM.out s)
              go_wp2_with fail
              go_quiet (exact Calls.quiet_of_same (QF.out _ _))
              obtain ⟨W5, hW5⟩ : ∃ W5, W4.drewN nq = W5 := ⟨_, rfl⟩
              have b5 : Below W4.heap.size W4 W5 := hW5 ▸ below_drewN (Below.refl _ _) nq
              have X5 := hid (HX.out.below b5 HX.out.lt)
              have x0 := X5.out.cell0
              have Q5 := hid (HQ.out.below b5)
              have B5 := hid (HB.out.trans (b5.mono (by have := HB.out.size; omega)))
              have T5 := hid (T4.out.below b5)
              rw [hW5]
              clear hW5 b5 HX HQ HB T4 QF
              have QF := hid (fun q s => rofZ_calls (T5.out.below (below_drewN (Below.refl _ _) q)) HM.out s)
              go_wp2_with fail
              go_quiet (exact Calls.quiet_of_same (QF.out _ _))
              obtain ⟨W6, hW6⟩ : ∃ W6, W5.drewN nq = W6 := ⟨_, rfl⟩
              have b6 : Below W5.heap.size W5 W6 := hW6 ▸ below_drewN (Below.refl _ _) nq
              have X6 := hid (X5.out.below b6 X5.out.lt)
              have x1 := X6.out.cell1
              have f1 := X6.out.fr 1
              have Q6 := hid (Q5.out.below b6)
              have B6 := hid (B5.out.trans (b6.mono (by have := B5.out.size; omega)))
              rw [hW6]
              clear hW6 b6 X5 Q5 B5 T5 QF x0
              have C1 := hid (ofZ_ways ts (s.extract 0 (k + 1)))
              have C2' := hid (ofZ_ways ts (s.extract (k + 1) m))
              obtain ⟨u1, hu1⟩ : ∃ u, Vc.ofZ ts (s.extract 0 (k + 1)) = u := ⟨_, rfl⟩
              obtain ⟨u2, hu2⟩ : ∃ u, Vc.ofZ ts (s.extract (k + 1) m) = u := ⟨_, rfl⟩
              rw [hu1] at C1
              rw [hu2] at C2'
              try rw [hu1]
              try rw [hu2]
              clear hu1 hu2
              have hstep : (∃ l r : Nat, u1 = l ∧ u2 = r ∧ Vc.cutAt ts j (k + 1) = [((l : Int), (r : Int), (j : Int), (j : Int))]) ∨ ((u1 = -1 ∨ (∃ l : Nat, u1 = l) ∧ u2 = -1) ∧ Vc.cutAt ts j (k + 1) = []) := by
                unfold Vc.cutAt
                rw [HSs.out, hsm]
                rcases C1.out with ⟨l, a1, a2, _⟩ | ⟨a1, a2⟩
                · rcases C2'.out with ⟨r, b1, b2, _⟩ | ⟨b1, b2⟩
                  · exact .inl ⟨l, r, a2, b2, by rw [a1, b1]; rfl⟩
                  · exact .inr ⟨.inr ⟨⟨l, a2⟩, b2⟩, by rw [a1, b1]; rfl⟩
                · exact .inr ⟨.inl a2, by rw [a1]; cases Vc.num ts (s.extract (k + 1) m) <;> rfl⟩
              clear C1 C2'
              rcases hstep with ⟨l, r, rfl, rfl, hcut⟩ | ⟨hf, hcut⟩
              · have HC := hid hcut
                have v1 : (0 : Int) ≤ l := by omega
                have v2 : (0 : Int) ≤ r := by omega
                have hlen : nm ≤ 300000 := by have := HP.out.length_eq; rw [List.length_append] at this; omega
                clear hcut
                go_wp2_with fail
                refine (rput_calls Q6.out HA.out.2 (by omega) (l : Int) (r : Int) (j : Int) (j : Int)).mono ?_
                rintro e w8 ⟨⟨a8, c8, out, rfl, hI, hq8, hi8, ha8⟩, b8⟩
                have HI := hid hI
                have Q8 := hid hq8
                have HH8 := hid hi8
                have HA8 := hid ha8
                have X8 := hid (X6.out.below b8 X6.out.lt)
                have B8 := hid (B6.out.trans (b8.mono (by have := B6.out.size; omega)))
                have hk6 := X6.out.lt
                clear hI hq8 hi8 ha8 b8 x1 f1 X6 Q6 B6
                have x0 := X8.out.cell0
                have x1 := X8.out.cell1
                have f1 := X8.out.fr 1
                have X9 := hid (X8.out.set1 (.slice a8 (nm + 1) c8))
                have Q9 := hid (Q8.out.mut (Mut.set w8 K 1 (.slice a8 (nm + 1) c8) (S := fun i => i = K) rfl) (HH8.out.mono (show K + 1 ≤ _ from hk6)) (fun i hi => by omega))
                have B9 := hid (B8.out.setCell (p := ⟨K, 1, none⟩) (Nat.le_refl _) (.slice a8 (nm + 1) c8))
                go_wp2_with fail
                go_roundg (m - (k + 1))
                case measure => omega
                case rel =>
                  refine ⟨k + 1, nm + 1, c8, a8, out, rfl, by go_num, by omega, by omega, hid ?_, hid (HI.out.up HU.out), Q9, hid ⟨HH8.out.mono (show K + 1 ≤ _ from hk6), HA8.out⟩, X9, B9⟩
                  rw [Vc.cutsTo, HC.out, ← List.append_assoc]
                  exact HI.out.perm.trans ((List.Perm.cons _ HP.out).trans (List.perm_append_singleton _ _).symm)
              · have HC := hid hcut
                clear hcut
                have e1 : Vc.cutsL ts j ++ Vc.cutsTo ts j (k + 1) = Vc.cutsL ts j ++ Vc.cutsTo ts j k := by rw [Vc.cutsTo, HC.out, List.append_nil]
                have HE := hid e1
                clear e1
                rcases hf with rfl | ⟨⟨l, rfl⟩, rfl⟩
                · go_wp2_with fail
                  go_roundg (m - (k + 1))
                  case measure => omega
                  case rel => exact ⟨k + 1, nm, cm, am, ms, rfl, by go_num, by omega, by omega, hid (by rw [HE.out]; exact HP.out), HU, Q6, HA, X6, B6⟩
                · have v1 : (0 : Int) ≤ l := by omega
                  go_wp2_with fail
                  go_roundg (m - (k + 1))
                  case measure => omega
                  case rel => exact ⟨k + 1, nm, cm, am, ms, rfl, by go_num, by omega, by omega, hid (by rw [HE.out]; exact HP.out), HU, Q6, HA, X6, B6⟩
            · have g1 : ¬ (k : Int) + 1 < m := by omega
              have e1 : Vc.cutsL ts (j + 1) = Vc.cutsL ts j ++ Vc.cutsTo ts j k := by
                have e2 : m - 1 = k := by omega
                rw [Vc.cutsL, HSs.out, hsm, e2]
              have HE := hid e1
              clear e1
              go_wp2_with fail
              go_roundg (N - (j + 1))
              case measure => omega
              case rel => exact ⟨j + 1, nm, cm, am, ms, rfl, by go_num, by omega, hid (by rw [HE.out]; exact HP.out), HU, HQ, HA, HX, HB⟩
        · have hjn : j = N := by omega
          have l1 : ¬ (j : Int) < N := by omega
          have HC := hid (show Vc.CutsIs ts ms from ⟨by rw [HN.out, ← hjn]; exact HP.out, HU.out⟩)
          have T3 := hid (T1.out.below (hK ▸ HB.out))
          have S3 := hid (Q1.out.below (hK ▸ HB.out))
          have R3 := hid (R1.out.below HB.out (by omega))
          have B3 := hid (B1.out.trans (HB.out.mono (hK ▸ B1.out.size)))
          have V3 := hid (show Vo W3 (some ⟨b, 0, none⟩) N N am nm cm z1 zn zc ts ms sp' from ⟨T3.out, HQ.out, S3.out⟩)
          have x1 := HX.out.cell1
          have x2 := HX.out.cell2
          clear T3 S3 hjn
          go_wp2_with fail
          refine (rmay_calls V3.out (sp_small HS.out HZs.out)).mono ?_
          rintro e w8 ⟨⟨t, rfl, ht⟩, b8⟩
          have HMay := hid ht
          have R8 := hid (R3.out.below b8 R3.out.lt)
          have V8 := hid (V3.out.below b8)
          have X8 := hid (HX.out.below b8 HX.out.lt)
          have B8 := hid (B3.out.trans (b8.mono B3.out.size))
          clear ht b8 R3 V3 HX B3 x0 x1 x2
          cases t
          · have HF := hid (Vc.noFrom HT.out HC.out HS.out (fun h => absurd (HMay.out.2 h) (by decide)))
            obtain ⟨y1, y2, y3⟩ := ret_three R8.out (.slice none 0 0) (.slice none 0 0) (.slice none 0 0)
            have BB := hid (below_three B8.out (R := w.heap.size) (Nat.le_refl _) (.slice none 0 0) (.slice none 0 0) (.slice none 0 0))
            have p0 := R8.out.cell0
            have p1 := R8.out.cell1
            have p2 := R8.out.cell2
            have q0 := R8.out.fr 0
            have q1 := R8.out.fr 1
            have q2 := R8.out.fr 2
            have u1 := y1.cell1
            have v1 := y1.fr 1
            have u2 := y2.cell2
            have v2 := y2.fr 2
            have r0 := y3.cell0
            have r1 := y3.cell1
            have r2 := y3.cell2
            unfold three at r0 r1 r2
            clear y1 y2 y3
            go_wp2_with fail
            refine bodyPost_ret (v := .tuple #[.agg #[.slice none 0 0, .slice none 0 0, .slice none 0 0], .bool false]) (by simp [results, Try.results40, go_sem, r0, r1, r2]) rfl ?_
            exact ⟨.inr ⟨HF.out, rfl⟩, BB.out⟩
          · have HF := hid (show Vc.FromIs rs sp ts ms sp' from ⟨HR.out, HT.out, HC.out, HS.out, HMay.out.1 rfl⟩)
            have x0 := X8.out.cell0
            have x1 := X8.out.cell1
            have x2 := X8.out.cell2
            have V9 := hid (V8.out.mut (mut_three w8 w.heap.size (.slice (some ⟨b, 0, none⟩) N N) (.slice am nm cm) (.slice z1 zn zc) (S := fun i => i = w.heap.size) rfl) Hb.out (HA.out.1.mono (by omega)) HH.out (fun i hi => by omega))
            obtain ⟨y1, y2, y3⟩ := ret_three R8.out (.slice (some ⟨b, 0, none⟩) N N) (.slice am nm cm) (.slice z1 zn zc)
            have BB := hid (below_three B8.out (R := w.heap.size) (Nat.le_refl _) (.slice (some ⟨b, 0, none⟩) N N) (.slice am nm cm) (.slice z1 zn zc))
            have p0 := R8.out.cell0
            have p1 := R8.out.cell1
            have p2 := R8.out.cell2
            have q0 := R8.out.fr 0
            have q1 := R8.out.fr 1
            have q2 := R8.out.fr 2
            have u1 := y1.cell1
            have v1 := y1.fr 1
            have u2 := y2.cell2
            have v2 := y2.fr 2
            have r0 := y3.cell0
            have r1 := y3.cell1
            have r2 := y3.cell2
            unfold three at r0 r1 r2
            clear y1 y2 y3
            go_wp2_with fail
            refine bodyPost_ret (v := .tuple #[.agg #[.slice (some ⟨b, 0, none⟩) N N, .slice am nm cm, .slice z1 zn zc], .bool true]) (by simp [results, Try.results40, go_sem, r0, r1, r2]) rfl ?_
            exact ⟨.inl ⟨ts, ms, sp', _, _, _, am, nm, cm, z1, zn, zc, HF.out, rfl, V9.out⟩, BB.out⟩
  · have HF := hid (Vc.noFrom_ranks hno)
    clear hno
    have R2 := hid (R1.out.alloc (.cells #[.slice none 0 0, .slice none 0 0, .slice none 0 0] 26))
    have B2 := hid (B1.out.alloc B1.out.size (.cells #[.slice none 0 0, .slice none 0 0, .slice none 0 0] 26))
    obtain ⟨y1, y2, y3⟩ := ret_three R2.out (.slice none 0 0) (.slice none 0 0) (.slice none 0 0)
    have BB := hid (below_three B2.out (R := w.heap.size) (Nat.le_refl _) (.slice none 0 0) (.slice none 0 0) (.slice none 0 0))
    have p0 := R2.out.cell0
    have p1 := R2.out.cell1
    have p2 := R2.out.cell2
    have q0 := R2.out.fr 0
    have q1 := R2.out.fr 1
    have q2 := R2.out.fr 2
    have u1 := y1.cell1
    have v1 := y1.fr 1
    have u2 := y2.cell2
    have v2 := y2.fr 2
    have r0 := y3.cell0
    have r1 := y3.cell1
    have r2 := y3.cell2
    unfold three at r0 r1 r2
    clear y1 y2 y3
    go_wp2_with fail
    refine bodyPost_ret (v := .tuple #[.agg #[.slice none 0 0, .slice none 0 0, .slice none 0 0], .bool false]) (by simp [results, Try.results40, go_sem, r0, r1, r2]) rfl ?_
    exact ⟨.inr ⟨HF.out, rfl⟩, BB.out⟩
end Go.Proofs.Ytcjakjmhghoilaa

/-
  Walk of the reference's Letters, where there are no names.
-/
namespace Go.Proofs.Ytcjakjmhghoilaa
open Go.RowKit Go.Maps
set_option linter.unusedVariables false

theorem Try.infoRowL : (Try.prog.info? 84).map (fun i => (i.zero, i.size, i.bytes)) = some (some (.agg #[.string ⟨#[]⟩, .int .i64 0]), 2, 24) := by kernel_rfl
/-- A block of slices holds no text and no number. -/
theorem bx3_not {W : World} {R : Nat} {t : TypeId} {a1 a2 a3 : Option Addr} {n1 n2 n3 c1 c2 c3 : Nat} (h : Bx3 W R t (.slice a1 n1 c1) (.slice a2 n2 c2) (.slice a3 n3 c3)) {b j : Nat} {v : Value} (hc : W.cell? ⟨b, j, none⟩ = some v) (hv : ∀ a n c, v ≠ .slice a n c) : b ≠ R := by
  rintro rfl
  simp only [World.cell?, show W.heap[b]? = _ from h] at hc
  match j with
  | 0 => exact hv a1 n1 c1 (Option.some.inj hc).symm
  | 1 => exact hv a2 n2 c2 (Option.some.inj hc).symm
  | 2 => exact hv a3 n3 c3 (Option.some.inj hc).symm
  | j + 3 => simp at hc
theorem three_cell {W : World} {R b o : Nat} (hne : b ≠ R) (x y z : Value) : (three W R x y z).cell? ⟨b, o, none⟩ = W.cell? ⟨b, o, none⟩ := by
  have h : (three W R x y z).heap[b]? = W.heap[b]? := by
    unfold three
    rw [Below.heap_setCell _ _ _ _ (by simpa using hne), Below.heap_setCell _ _ _ _ (by simpa using hne), Below.heap_setCell _ _ _ _ (by simpa using hne)]
  exact World.cell?_of_block h
theorem Vo.three {W : World} {R : Nat} {t : TypeId} {a1 a2 a3 : Option Addr} {n1 n2 n3 c1 c2 c3 : Nat} (X : Bx3 W R t (.slice a1 n1 c1) (.slice a2 n2 c2) (.slice a3 n3 c3)) {a : Option Addr} {n c : Nat} {am : Option Addr} {nm cm : Nat} {az : Option Addr} {ns cs : Nat} {ts : List ByteArray} {ms : List Mg4} {sp : List (ByteArray × Int)}
    (h : Vo W a n c am nm cm az ns cs ts ms sp) (x y z : Value) : Vo (three W R x y z) a n c am nm cm az ns cs ts ms sp := by
  have hs : (Go.Proofs.Ytcjakjmhghoilaa.three W R x y z).heap.size = W.heap.size := by simp [Go.Proofs.Ytcjakjmhghoilaa.three, World.setCell]
  refine ⟨⟨h.T.len, h.T.le, h.T.mx, h.T.nil, fun h0 => ?_⟩, ⟨h.M.len, h.M.le, h.M.mx, h.M.nil, fun h0 => ?_⟩, ⟨h.S.len, h.S.le, h.S.mx, h.S.nil, fun h0 => ?_⟩⟩
  · obtain ⟨b, off, e, hb, hc⟩ := h.T.at' h0
    refine ⟨b, off, e, by rw [hs]; exact hb, fun i hi => ?_⟩
    rw [three_cell (bx3_not X (hc 0 h0) (by intro a n c h; cases h))]
    exact hc i hi
  · obtain ⟨b, off, e, hb, hc⟩ := h.M.at' h0
    have hne := bx3_not X (hc 0 h0).1 (by intro a n c h; cases h)
    refine ⟨b, off, e, by rw [hs]; exact hb, fun i hi => ?_⟩
    rw [three_cell hne, three_cell hne, three_cell hne, three_cell hne]
    exact hc i hi
  · obtain ⟨b, off, e, hb, hc⟩ := h.S.at' h0
    have hne := bx3_not X (hc 0 h0).1 (by intro a n c h; cases h)
    refine ⟨b, off, e, by rw [hs]; exact hb, fun i hi => ?_⟩
    rw [three_cell hne, three_cell hne]
    exact hc i hi

set_option maxRecDepth 100000 in
set_option maxHeartbeats 6400000 in
theorem letters_calls {w : World} {a : Option Addr} {n c : Nat} {xs : Vc.Toks} (V : Ts w a n c xs) (hn : n ≤ 700) :
    Calls Try.prog 23 #[.slice a n c, .slice none 0 0] w fun e w' => RfOut (Vc.lR xs n) [] e w' ∧ Below w.heap.size w w' := by
  obtain ⟨i0, hi, hz0, hz1, hz2⟩ := info_parts Try.infoRowL
  have hl := V.len
  have TW := hid V
  clear V
  have B0 := hid (((Below.refl w.heap.size w).alloc (Nat.le_refl _) (.cells #[.slice none 0 0, .slice none 0 0, .slice none 0 0] 26)).alloc (by simp) (.cells #[] 84))
  have R0 := hid ((Bx3.new w 26 (.slice none 0 0) (.slice none 0 0) (.slice none 0 0)).alloc (.cells #[] 84))
  obtain ⟨M, hM⟩ : ∃ M, w.heap.size + 1 = M := ⟨_, rfl⟩
  have O0 := hid (show ((w.alloc (.cells #[.slice none 0 0, .slice none 0 0, .slice none 0 0] 26)).alloc (.cells #[] 84)).ownsRow M 84 2 (.slice (some ⟨w.heap.size + 1, 0, none⟩) 0 0) 0 (rv (Vc.bR 0)) from own_empty (w.heap.size + 1) (by simp) (by simp; omega))
  have HM := hid hM
  clear hM
  go_enter Try.func23, Try.ntmps23
  go_wp2_with fail
  go_loopg [6, 7] 256 (fun r mvv iv wr => ∃ (j : Nat) (v : Value), r = 256 - j ∧ v = mvv ∧ iv = .int .i64 (j : Int) ∧ j ≤ 256 ∧ Hid (wr.ownsRow M 84 2 v j (rv (Vc.bR j))) ∧ Hid (Bx3 wr w.heap.size 26 (.slice none 0 0) (.slice none 0 0) (.slice none 0 0)) ∧ Hid (Below w.heap.size w wr))
  case atStart => exact ⟨0, _, rfl, rfl, rfl, by omega, O0, R0, B0⟩
  case round =>
    clear O0 R0 B0
    obtain ⟨j, v, rfl, rfl, rfl, hj, HO, HR, HB⟩ := hrel
    have hRl := HR.out.lt
    by_cases hlt : j < 256
    · have l0 : (0 : Int) ≤ j := by omega
      have l1 : (j : Int) < 256 := by omega
      have l2 : IntKind.i64.wrap ((j : Int) + 1) = j + 1 := i64_in (by omega) (by omega)
      have e3 : IntKind.u8.wrap (j : Int) = j := u8_in' (by omega) (by omega)
      have cv := cv_one wr j
      have hb0 := HB.out.size
      obtain ⟨S, hS⟩ : ∃ S, Vc.one j = S := ⟨_, rfl⟩
      rw [hS] at cv
      have HSS := hid hS
      clear hS
      have OB := hid (own_at HO.out)
      have B2 := hid ((HB.out.alloc HB.out.size (.cells #[.int .u8 (j : Int)] 5)).alloc (by simp; omega) (.cells #[.string S, .int .i64 (j : Int)] 84))
      have R2 := hid ((HR.out.alloc (.cells #[.int .u8 (j : Int)] 5)).alloc (.cells #[.string S, .int .i64 (j : Int)] 84))
      go_wp2_with (at_builtin; refine wpList_append_src rfl _ _ 82 rfl M 84 i0 (.agg #[.string ⟨#[]⟩, .int .i64 0]) 2 24 Try.underlying82 hi hz0 hz1 hz2 rfl (by decide) _ j _ rfl ((HO.out.alloc _).alloc _) (some ⟨wr.heap.size + 1, 0, none⟩) 1 1 [.string S, .int .i64 (j : Int)] rfl (by simpa using src_row (w := wr.alloc (.cells #[.int .u8 (j : Int)] 5)) S (j : Int) 84) (by unfold maxLen; omega) (by omega) (by have := HM.out; simp; omega) ?_; intro v3 w3 own gr loc; have O3 := hid own; have G3 := hid gr; clear own gr loc)
      go_roundg (256 - (j + 1))
      case measure => omega
      case rel =>
        refine ⟨j + 1, v3, rfl, rfl, by go_num, by omega, hid ?_, hid (R2.out.kept G3.out (fun e => by have := OB.out _ e.symm; have := HM.out; omega)), hid (B2.out.grown G3.out (by simp; omega) (fun k hk => by have := OB.out k hk; have := HM.out; omega))⟩
        rw [Vc.bR_succ, HSS.out, ← rv_snoc]
        exact O3.out
    · obtain rfl : j = 256 := by omega
      have k1 : ¬ (((256 : Nat) : Int) < 256) := by omega
      go_wp2_with fail
      go_loopg [6, 27] n (fun r mvv iv wr => ∃ (j : Nat) (v : Value), r = n - j ∧ v = mvv ∧ iv = .int .i64 (j : Int) ∧ j ≤ n ∧ Hid (wr.ownsRow M 84 2 v (256 + j) (rv (Vc.lR xs j))) ∧ Hid (Bx3 wr w.heap.size 26 (.slice none 0 0) (.slice none 0 0) (.slice none 0 0)) ∧ Hid (Below w.heap.size w wr))
      case atStart => exact ⟨0, _, rfl, rfl, rfl, by omega, hid (by have := HO.out; simpa [Vc.lR] using this), HR, HB⟩
      case round =>
        clear HO HR HB hRl
        obtain ⟨j, v, rfl, rfl, rfl, hj, HO, HR, HB⟩ := hrel
        have hRl := HR.out.lt
        have OB := hid (own_at HO.out)
        by_cases hlt : j < n
        · have l0 : (0 : Int) ≤ j := by omega
          have l1 : (j : Int) < n := by omega
          have l2 : IntKind.i64.wrap ((j : Int) + 1) = j + 1 := i64_in (by omega) (by omega)
          have l3 : IntKind.i64.wrap (256 + (j : Int)) = 256 + j := i64_in (by omega) (by omega)
          obtain ⟨b, off, rfl, hbl, hc⟩ := (TW.out.below HB.out).at' (by omega)
          have q1 := hc j hlt
          have hb0 := HB.out.size
          obtain ⟨S, hS⟩ : ∃ S, at_ xs j = S := ⟨_, rfl⟩
          rw [hS] at q1
          have HSS := hid hS
          clear hS hc
          have B2 := hid (HB.out.alloc HB.out.size (.cells #[.string S, .int .i64 (256 + (j : Int))] 84))
          have R2 := hid (HR.out.alloc (.cells #[.string S, .int .i64 (256 + (j : Int))] 84))
          go_wp2_with (at_builtin; refine wpList_append_src rfl _ _ 82 rfl M 84 i0 (.agg #[.string ⟨#[]⟩, .int .i64 0]) 2 24 Try.underlying82 hi hz0 hz1 hz2 rfl (by decide) _ (256 + j) _ rfl (HO.out.alloc _) (some ⟨wr.heap.size, 0, none⟩) 1 1 [.string S, .int .i64 (256 + (j : Int))] rfl (src_row S (256 + (j : Int)) 84) (by unfold maxLen; omega) (by omega) (by have := HM.out; simp; omega) ?_; intro v3 w3 own gr loc; have O3 := hid own; have G3 := hid gr; clear own gr loc)
          go_roundg (n - (j + 1))
          case measure => omega
          case rel =>
            refine ⟨j + 1, v3, rfl, rfl, by go_num, by omega, hid ?_, hid (R2.out.kept G3.out (fun e => by have := OB.out _ e.symm; have := HM.out; omega)), hid (B2.out.grown G3.out (by simp; omega) (fun k hk => by have := OB.out k hk; have := HM.out; omega))⟩
            rw [Vc.lR_succ, HSS.out, ← rv_snoc]
            exact O3.out
        · obtain rfl : j = n := by omega
          have k1 : ¬ ((j : Int) < j) := by omega
          have R2 := hid (HR.out.alloc (.cells #[] 73))
          have B2 := hid (HB.out.alloc HB.out.size (.cells #[] 73))
          have O2 := hid (HO.out.alloc (.cells #[] 73))
          clear HR HB HO
          obtain ⟨av, cv, rfl, hV⟩ := Rw.ofOwn O2.out
          have V2 := hid hV
          have Q2 := hid (Rw.none (wr.alloc (.cells #[] 73)) 0 (some ⟨wr.heap.size, 0, none⟩) (Nat.zero_le _) (fun h => by cases h))
          clear hV O2 OB
          go_wp2_with fail
          obtain ⟨w2, hw2⟩ : ∃ W, wr.alloc (.cells #[] 73) = W := ⟨_, rfl⟩
          rw [hw2] at R2 B2 V2 Q2
          try rw [hw2]
          clear hw2
          go_loopg [9, 44] 0 (fun r sv iv w' => r = 0 ∧ sv = .slice (some ⟨wr.heap.size, 0, none⟩) 0 0 ∧ iv = .int .i64 0 ∧ w2 = w')
          case atStart => exact ⟨rfl, rfl, rfl, rfl⟩
          case round =>
            obtain ⟨rfl, rfl, rfl, rfl⟩ := hrel
            go_wp2_with fail
            refine (rfromRows_calls V2.out Q2.out (by omega) (by omega) (fun i hi => by cases hi)).mono ?_
            rintro e w5 ⟨E5, b5⟩
            have R5 := hid (R2.out.below b5 R2.out.lt)
            have B5 := hid (B2.out.trans (b5.mono B2.out.size))
            clear b5 V2 Q2 R2 B2
            rcases E5 with ⟨ts, ms, sp', a', n', c', am, nm, cm, az, ns, cs, hF, rfl, hV⟩ | ⟨hno, rfl⟩
            · have HF := hid hF
              have V9 := hid (hV.three R5.out (.slice a' n' c') (.slice am nm cm) (.slice az ns cs))
              clear hF hV
              obtain ⟨y1, y2, y3⟩ := ret_three R5.out (.slice a' n' c') (.slice am nm cm) (.slice az ns cs)
              have BB := hid (below_three B5.out (R := w.heap.size) (Nat.le_refl _) (.slice a' n' c') (.slice am nm cm) (.slice az ns cs))
              have p0 := R5.out.cell0
              have q0 := R5.out.fr 0
              have u1 := y1.cell1
              have v1 := y1.fr 1
              have u2 := y2.cell2
              have v2 := y2.fr 2
              have r0 := y3.cell0
              have r1 := y3.cell1
              have r2 := y3.cell2
              unfold three at r0 r1 r2
              clear y1 y2 y3
              go_wp2_with fail
              refine bodyPost_ret (v := .tuple #[.agg #[.slice a' n' c', .slice am nm cm, .slice az ns cs], .bool true]) (by simp [results, Try.results23, go_sem, r0, r1, r2]) rfl ?_
              exact ⟨.inl ⟨ts, ms, sp', _, _, _, am, nm, cm, az, ns, cs, HF.out, rfl, V9.out⟩, BB.out⟩
            · have HF := hid hno
              clear hno
              obtain ⟨y1, y2, y3⟩ := ret_three R5.out (.slice none 0 0) (.slice none 0 0) (.slice none 0 0)
              have BB := hid (below_three B5.out (R := w.heap.size) (Nat.le_refl _) (.slice none 0 0) (.slice none 0 0) (.slice none 0 0))
              have p0 := R5.out.cell0
              have q0 := R5.out.fr 0
              have u1 := y1.cell1
              have v1 := y1.fr 1
              have u2 := y2.cell2
              have v2 := y2.fr 2
              have r0 := y3.cell0
              have r1 := y3.cell1
              have r2 := y3.cell2
              unfold three at r0 r1 r2
              clear y1 y2 y3
              go_wp2_with fail
              refine bodyPost_ret (v := .tuple #[.agg #[.slice none 0 0, .slice none 0 0, .slice none 0 0], .bool false]) (by simp [results, Try.results23, go_sem, r0, r1, r2]) rfl ?_
              exact ⟨.inr ⟨HF.out, rfl⟩, BB.out⟩
end Go.Proofs.Ytcjakjmhghoilaa
