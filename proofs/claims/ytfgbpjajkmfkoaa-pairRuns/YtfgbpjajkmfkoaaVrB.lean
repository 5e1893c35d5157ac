/-
  Walk of the reference's base.
-/
import Derived.Test.YtfgbpjajkmfkoaaVcIns
import Derived.Test.YtfgbpjajkmfkoaaVcW11
import Derived.Test.YtfgbpjajkmfkoaaVrW2
import Derived.Deep.QuietTactic
import Derived.BigQuiet
import Derived.Deep.RegionHeld3
namespace Go.Proofs.Ytfgbpjajkmfkoaa
open Go.RowKit Go.Maps
set_option linter.unusedVariables false

theorem take_row {sp : Vc.Sps} {j : Nat} (h : j < sp.length) : sp.take (j + 1) = sp.take j ++ [(tat sp j, kat sp j)] := by
  rw [List.take_add_one]
  congr 1
  simp [tat, kat, h]
theorem rw_drew {w : World} {a : Option Addr} {n c : Nat} {xs : Vc.Sps} (h : Rw w a n c xs) (d : Nat) : Rw (w.drewN d) a n c xs := ⟨h.len, h.le, h.mx, h.nil, h.at'⟩
theorem own_addr_some {w : World} {base n m c k : Nat} {e : TypeId} {a : Option Addr} {xs : List Value} (h : w.ownsRow base e k (.slice a n c) m xs) (hm : 0 < m) : ∃ g, a = some ⟨g, 0, none⟩ := by
  obtain ⟨hl, ho⟩ := h
  rcases ho with ⟨h1, h2⟩ | ⟨g, cap, cur, h1, hb, _⟩
  · cases h1; omega
  · cases h1; exact ⟨_, rfl⟩

set_option maxRecDepth 100000 in
set_option maxHeartbeats 6400000 in
theorem rbase_calls {w : World} {a az : Option Addr} {n c ns cs : Nat} {rs sp : Vc.Sps} (V : Rw w a n c rs) (Q : Rw w az ns cs sp) (hn : n ≤ 1000) (hns : ns ≤ 1000) :
    Calls Try.prog 40 #[.slice a n c, .slice az ns cs] w fun e w' => BsOut w.heap.size rs sp e w' ∧ Below w.heap.size w w' := by
  have hl := V.len
  have hls := Q.len
  obtain ⟨i0, hi, hz0, hz1, hz2⟩ := info_parts Try.infoSp
  obtain ⟨j0, gi0, gz0, gz1, gz2⟩ := info_parts Try.infoSt
  have B0 := hid ((Below.refl w.heap.size w).alloc (Nat.le_refl _) (.cells #[.slice none 0 0, .slice none 0 0, .slice none 0 0] 26))
  have R0 := hid (Bx3.new w 26 (.slice none 0 0) (.slice none 0 0) (.slice none 0 0))
  have VW := hid V
  have QW := hid Q
  have V0 := hid (V.below B0.out)
  have Q0 := hid (Q.below B0.out)
  clear V Q
  obtain ⟨W, hW⟩ : ∃ W, w.alloc (.cells #[.slice none 0 0, .slice none 0 0, .slice none 0 0] 26) = W := ⟨_, rfl⟩
  have hWs : W.heap.size = w.heap.size + 1 := by rw [← hW]; simp
  rw [hW] at R0 V0 Q0 B0
  obtain ⟨y1, y2, y3⟩ := ret_three R0.out (.slice none 0 0) (.slice none 0 0) (.slice none 0 0)
  have BB := hid (below_three B0.out (R := w.heap.size) (Nat.le_refl _) (.slice none 0 0) (.slice none 0 0) (.slice none 0 0))
  have p0 := R0.out.cell0
  have p1 := R0.out.cell1
  have p2 := R0.out.cell2
  have q0 := R0.out.fr 0
  have q1 := R0.out.fr 1
  have q2 := R0.out.fr 2
  have u1 := y1.cell1
  have v1 := y1.fr 1
  have u2 := y2.cell2
  have v2 := y2.fr 2
  have r0 := y3.cell0
  have r1 := y3.cell1
  have r2 := y3.cell2
  unfold three at r0 r1 r2
  clear y1 y2 y3
  go_enter Try.func40, Try.ntmps40
  go_wp2_with fail
  try rw [hW]
  clear hW
  go_loopg [6, 18] ns (fun r sv iv wr => ∃ j N : Nat, r = ns - j ∧ sv = .int .i64 (N : Int) ∧ iv = .int .i64 (j : Int) ∧ j ≤ ns ∧ N ≤ 4096 ∧ Hid (∀ i, i < j → Vc.Num (kat sp i) ∧ kat sp i + 1 ≤ (N : Int)) ∧ Hid (N = 0 ∨ ∃ i, i < sp.length ∧ kat sp i + 1 = (N : Int)) ∧ W = wr)
  case atStart => exact ⟨0, 0, rfl, rfl, rfl, by omega, by omega, hid (fun i hi => by omega), hid (.inl rfl), rfl⟩
  case round =>
    obtain ⟨j, N, rfl, rfl, rfl, hj, hN, HA, HT, rfl⟩ := hrel
    by_cases hlt : j < ns
    · have l0 : (0 : Int) ≤ j := by omega
      have l1 : (j : Int) < ns := by omega
      have l2 : IntKind.i64.wrap ((j : Int) + 1) = j + 1 := i64_in (by omega) (by omega)
      obtain ⟨b, off, rfl, hbl, hc⟩ := Q0.out.at' (by omega)
      have s2 := (hc j hlt).2
      obtain ⟨x, hx1⟩ : ∃ x, kat sp j = x := ⟨_, rfl⟩
      rw [hx1] at s2
      have HX := hid hx1
      clear hc hx1
      by_cases hnum : Vc.Num x
      · have n0 : ¬ x < 0 := by have := hnum.1; omega
        have n1 : ¬ (4096 : Int) ≤ x := by have := hnum.2; omega
        have dn0 : decide (x < (0 : Int)) = false := decide_eq_false n0
        have dn1 : decide ((4096 : Int) ≤ x) = false := decide_eq_false n1
        obtain ⟨N', a1, a2, a3, a4, a5, a6⟩ := max_up (N := N) hnum
        have l3 : IntKind.i64.wrap (x + 1) = x + 1 := i64_in (by omega) (by omega)
        have HM := hid hnum
        have A1 := hid a1
        have A2 := hid a2
        have A3 := hid a3
        have A6 := hid a6
        clear hnum a1 a2 a3 a6
        go_wp2_with fail
        go_roundg (ns - (j + 1))
        case measure => omega
        case rel => exact ⟨j + 1, N', rfl, by go_num, by go_num, by omega, A6.out hN, hid (fun i hi => by
          by_cases h : i < j
          · have q := HA.out i h; have := A1.out; exact ⟨q.1, by omega⟩
          · obtain rfl : i = j := by omega
            rw [HX.out]; exact ⟨HM.out, A2.out⟩), hid (by
          rcases A3.out with h | h
          · rw [h]; exact HT.out
          · exact .inr ⟨j, by omega, by rw [HX.out]; exact h.symm⟩), rfl⟩
      · have HN := hid (show ¬ Vc.Ranks rs sp from fun h => hnum (by have := h.s j (by omega); rwa [HX.out] at this))
        have hw : x < 0 ∨ (¬ x < 0 ∧ (4096 : Int) ≤ x) := by unfold Vc.Num at hnum; omega
        clear hnum
        rcases hw with n0 | ⟨n0, n1⟩
        · go_wp2_with fail
          refine bodyPost_ret (v := .tuple #[.agg #[.slice none 0 0, .slice none 0 0, .slice none 0 0], .bool false]) (by simp [results, Try.results40, go_sem, r0, r1, r2]) rfl ?_
          exact ⟨.inr ⟨HN.out, rfl⟩, BB.out⟩
        · have dn0 : decide (x < (0 : Int)) = false := decide_eq_false n0
          go_wp2_with fail
          refine bodyPost_ret (v := .tuple #[.agg #[.slice none 0 0, .slice none 0 0, .slice none 0 0], .bool false]) (by simp [results, Try.results40, go_sem, r0, r1, r2]) rfl ?_
          exact ⟨.inr ⟨HN.out, rfl⟩, BB.out⟩
    · have hjn : j = ns := by omega
      have k1 : ¬ ((j : Int) < ns) := by omega
      go_wp2_with fail
      go_loopg [6, 47] n (fun r sv iv wr => ∃ j2 N2 : Nat, r = n - j2 ∧ sv = .int .i64 (N2 : Int) ∧ iv = .int .i64 (j2 : Int) ∧ j2 ≤ n ∧ N ≤ N2 ∧ N2 ≤ 4096 ∧ Hid (∀ i, i < j2 → Vc.Num (kat rs i) ∧ kat rs i + 1 ≤ (N2 : Int)) ∧ Hid (N2 = N ∨ ∃ i, i < rs.length ∧ kat rs i + 1 = (N2 : Int)) ∧ W = wr)
      case atStart => exact ⟨0, N, rfl, rfl, rfl, by omega, by omega, hN, hid (fun i hi => by omega), hid (.inl rfl), rfl⟩
      case round =>
        obtain ⟨j2, N2, rfl, rfl, rfl, hj2, hN1, hN2, HC, HD, rfl⟩ := hrel
        by_cases hlt : j2 < n
        · have l0 : (0 : Int) ≤ j2 := by omega
          have l1 : (j2 : Int) < n := by omega
          have l2 : IntKind.i64.wrap ((j2 : Int) + 1) = j2 + 1 := i64_in (by omega) (by omega)
          obtain ⟨b, off, rfl, hbl, hc⟩ := V0.out.at' (by omega)
          have s2 := (hc j2 hlt).2
          obtain ⟨x, hx1⟩ : ∃ x, kat rs j2 = x := ⟨_, rfl⟩
          rw [hx1] at s2
          have HX := hid hx1
          clear hc hx1
          by_cases hnum : Vc.Num x
          · have n0 : ¬ x < 0 := by have := hnum.1; omega
            have n1 : ¬ (4096 : Int) ≤ x := by have := hnum.2; omega
            have dn0 : decide (x < (0 : Int)) = false := decide_eq_false n0
            have dn1 : decide ((4096 : Int) ≤ x) = false := decide_eq_false n1
            obtain ⟨N', a1, a2, a3, a4, a5, a6⟩ := max_up (N := N2) hnum
            have l3 : IntKind.i64.wrap (x + 1) = x + 1 := i64_in (by omega) (by omega)
            have HM := hid hnum
            have A1 := hid a1
            have A2 := hid a2
            have A3 := hid a3
            have A6 := hid a6
            clear hnum a1 a2 a3 a6
            go_wp2_with fail
            go_roundg (n - (j2 + 1))
            case measure => omega
            case rel => exact ⟨j2 + 1, N', rfl, by go_num, by go_num, by omega, by have := A1.out; omega, A6.out hN2, hid (fun i hi => by
              by_cases h : i < j2
              · have q := HC.out i h; have := A1.out; exact ⟨q.1, by omega⟩
              · obtain rfl : i = j2 := by omega
                rw [HX.out]; exact ⟨HM.out, A2.out⟩), hid (by
              rcases A3.out with h | h
              · rw [h]; exact HD.out
              · exact .inr ⟨j2, by omega, by rw [HX.out]; exact h.symm⟩), rfl⟩
          · have HN := hid (show ¬ Vc.Ranks rs sp from fun h => hnum (by have := h.r j2 (by omega); rwa [HX.out] at this))
            have hw : x < 0 ∨ (¬ x < 0 ∧ (4096 : Int) ≤ x) := by unfold Vc.Num at hnum; omega
            clear hnum
            rcases hw with n0 | ⟨n0, n1⟩
            · go_wp2_with fail
              refine bodyPost_ret (v := .tuple #[.agg #[.slice none 0 0, .slice none 0 0, .slice none 0 0], .bool false]) (by simp [results, Try.results40, go_sem, r0, r1, r2]) rfl ?_
              exact ⟨.inr ⟨HN.out, rfl⟩, BB.out⟩
            · have dn0 : decide (x < (0 : Int)) = false := decide_eq_false n0
              go_wp2_with fail
              refine bodyPost_ret (v := .tuple #[.agg #[.slice none 0 0, .slice none 0 0, .slice none 0 0], .bool false]) (by simp [results, Try.results40, go_sem, r0, r1, r2]) rfl ?_
              exact ⟨.inr ⟨HN.out, rfl⟩, BB.out⟩
        · have k1 : ¬ ((j2 : Int) < n) := by omega
          have HSz := hid (show Vc.Sz rs sp N2 from ⟨fun i hi => (HC.out i (by omega)).2, fun i hi => by have := (HA.out i (by omega)).2; omega, by
            rcases HD.out with h | h
            · rcases HT.out with h2 | ⟨i, hi, h2⟩
              · exact .inl (by omega)
              · exact .inr (.inr ⟨i, hi, by omega⟩)
            · exact .inr (.inl h)⟩)
          go_wp2_with (refine wpList_make_vr (by rfl) _ _ 22 rfl (.string ⟨#[]⟩) 9 _ Try.underlying22 gi0 gz0 rfl gz1 (by omega) N2 (by omega) rfl rfl ?_; intro w2 R2 b2 z2; rw [hWs] at R2 b2 z2; have B2 := hid (B0.out.trans (b2.out.mono (by omega))); have RR2 := hid (R0.out.below b2.out (by omega)); clear b2)
          go_loopg [78] n (fun r iv wr => ∃ (j : Nat) (g : Nat → ByteArray), r = n - j ∧ iv = .int .i64 (j : Int) ∧ j ≤ n ∧ Hid (Vr wr (w.heap.size + 1) N2 9 (fun i => .string (g i))) ∧ Hid (∀ i, i < j → g (kat rs i).toNat = tat rs i) ∧ Hid (∀ k : Nat, (∀ i, i < j → kat rs i ≠ (k : Int)) → g k = ⟨#[]⟩) ∧ Hid (∀ i k, i < k → k < j → kat rs i ≠ kat rs k) ∧ Hid (Bx3 wr w.heap.size 26 (.slice none 0 0) (.slice none 0 0) (.slice none 0 0)) ∧ Hid (Below w.heap.size w wr))
          case atStart => exact ⟨0, fun _ => ⟨#[]⟩, rfl, rfl, by omega, R2, hid (fun i hi => by omega), hid (fun k _ => rfl), hid (fun i k _ hk => by omega), RR2, B2⟩
          case round =>
            obtain ⟨j3, g, rfl, rfl, hj3, HG, HE3, HF3, HP3, HR3, HB3⟩ := hrel
            by_cases hlt : j3 < n
            · have l0 : (0 : Int) ≤ j3 := by omega
              have l1 : (j3 : Int) < n := by omega
              have l2 : IntKind.i64.wrap ((j3 : Int) + 1) = j3 + 1 := i64_in (by omega) (by omega)
              have hnum := (HC.out j3 (by omega)).1
              have htop := (HC.out j3 (by omega)).2
              obtain ⟨t, ht⟩ : ∃ t, tat rs j3 = t := ⟨_, rfl⟩
              obtain ⟨q, hq1⟩ : ∃ q : Nat, kat rs j3 = (q : Int) := ⟨(kat rs j3).toNat, by have := hnum.1; omega⟩
              rw [hq1] at hnum htop
              have hq : q < N2 := by omega
              have i0' : (0 : Int) ≤ q := by omega
              have i1' : (q : Int) < N2 := by omega
              have HX := hid hq1
              have HTt := hid ht
              clear ht hq1 hnum htop
              have V3 := hid (VW.out.below HB3.out)
              obtain ⟨b, off, rfl, hbw, _⟩ := VW.out.at' (by omega)
              obtain ⟨b', off', hbe, hbl, hc⟩ := V3.out.at' (by omega)
              cases hbe
              obtain ⟨s1, s2⟩ := hc j3 hlt
              rw [HTt.out] at s1
              rw [HX.out] at s2
              have HC3 := hid hc
              clear hc
              obtain ⟨W3, hW3⟩ : ∃ W3, W3 = wr := ⟨_, rfl⟩
              subst hW3
              go_wp2_with fail
              go_loopg [11] j3 (fun r iv wr2 => ∃ (k d : Nat), r = j3 - k ∧ iv = .int .i64 (k : Int) ∧ k ≤ j3 ∧ Hid (∀ i, i < k → kat rs i ≠ (q : Int)) ∧ wr2 = W3.drewN d)
              case atStart => exact ⟨0, 0, rfl, rfl, by omega, hid (fun i hi => by omega), rfl⟩
              case round =>
                obtain ⟨k, d, rfl, rfl, hk, HK, rfl⟩ := hrel
                by_cases hlt2 : k < j3
                · have m0 : (0 : Int) ≤ k := by omega
                  have m1 : (k : Int) < j3 := by omega
                  have m2 : (k : Int) < n := by omega
                  have m3 : IntKind.i64.wrap ((k : Int) + 1) = k + 1 := i64_in (by omega) (by omega)
                  obtain ⟨z1, z2⟩ := HC3.out k (by omega)
                  obtain ⟨x, hx⟩ : ∃ x, kat rs k = x := ⟨_, rfl⟩
                  rw [hx] at z2
                  have HXk := hid hx
                  clear hx
                  by_cases hxq : x = (q : Int)
                  · subst hxq
                    go_wp2_with fail
                    go_quiet (fail)
                    obtain ⟨WD, hWD⟩ : ∃ WD, (W3.drewN d).drewN nq = WD := ⟨_, rfl⟩
                    have RD := hid (show Bx3 WD w.heap.size 26 (.slice none 0 0) (.slice none 0 0) (.slice none 0 0) from hWD ▸ HR3.out)
                    have BD := hid (show Below w.heap.size w WD from hWD ▸ below_drewN (below_drewN HB3.out _) _)
                    rw [hWD]
                    clear hWD
                    have HN := hid (show ¬ Vc.Ranks rs sp from fun h => h.ap k j3 (by omega) (by omega) (by rw [HXk.out, HX.out]))
                    obtain ⟨y1, y2, y3⟩ := ret_three RD.out (.slice none 0 0) (.slice none 0 0) (.slice none 0 0)
                    have BB := hid (below_three BD.out (R := w.heap.size) (Nat.le_refl _) (.slice none 0 0) (.slice none 0 0) (.slice none 0 0))
                    have p0 := RD.out.cell0
                    have p1 := RD.out.cell1
                    have p2 := RD.out.cell2
                    have q0 := RD.out.fr 0
                    have q1 := RD.out.fr 1
                    have q2 := RD.out.fr 2
                    have u1 := y1.cell1
                    have v1 := y1.fr 1
                    have u2 := y2.cell2
                    have v2 := y2.fr 2
                    have r0 := y3.cell0
                    have r1 := y3.cell1
                    have r2 := y3.cell2
                    unfold three at r0 r1 r2
                    clear y1 y2 y3
                    go_wp2_with fail
                    refine bodyPost_ret (v := .tuple #[.agg #[.slice none 0 0, .slice none 0 0, .slice none 0 0], .bool false]) (by simp [results, Try.results40, go_sem, r0, r1, r2]) rfl ?_
                    exact ⟨.inr ⟨HN.out, rfl⟩, BB.out⟩
                  · have hxb : (x == (q : Int)) = false := by simpa using hxq
                    go_wp2_with fail
                    go_quiet (fail)
                    go_wp2_with fail
                    go_roundg (j3 - (k + 1))
                    case measure => omega
                    case rel => exact ⟨k + 1, d + nq, rfl, by go_num, by omega, hid (fun i hi => by
                      by_cases h : i < k
                      · exact HK.out i h
                      · obtain rfl : i = k := by omega
                        rw [HXk.out]; exact hxq), rfl⟩
                · have hkj : k = j3 := by omega
                  have m1 : ¬ (k : Int) < j3 := by omega
                  have cq : W3.cell? ⟨w.heap.size + 1, q, none⟩ = some (.string (g q)) := HG.out.cell hq
                  have fq := HG.out.fr q
                  have hneb : b ≠ w.heap.size + 1 := by omega
                  have hltK := HG.out.lt
                  go_wp2_with fail
                  go_region_held3 (fun w' => w'.cell? ⟨b, off + j3 * 2, none⟩ = some (.string t) ∧ w'.cell? ⟨b, off + j3 * 2 + 1, none⟩ = some (.int .i64 (q : Int))) (first | exact ⟨(World.cell?_of_block (Below.heap_setCell _ _ _ _ hneb)).trans s1, (World.cell?_of_block (Below.heap_setCell _ _ _ _ hneb)).trans s2⟩ | go_keep) (fail)
                  go_wp2_with fail
                  go_roundg (n - (j3 + 1))
                  case measure => omega
                  case rel =>
                    refine ⟨j3 + 1, fun i => if i = q then t else g i, rfl, by go_num, by omega, hid (((show Vr (W3.drewN (d + 1)) (w.heap.size + 1) N2 9 (fun i => .string (g i)) from HG.out).set q (.string t)).congr (fun i hi => ?_)), hid (fun i hi => ?_), hid (fun m hm => ?_), hid (fun i m hik hm => ?_), hid ((show Bx3 (W3.drewN (d + 1)) w.heap.size 26 (.slice none 0 0) (.slice none 0 0) (.slice none 0 0) from HR3.out).other (by omega) _), hid ((below_drewN HB3.out (d + 1)).setCell (by first | omega | (simp; done) | (simp; omega)) _)⟩
                    · simp only [upd]
                      split <;> rfl
                    · show (if (kat rs i).toNat = q then t else g (kat rs i).toNat) = tat rs i
                      by_cases hij : i < j3
                      · have hne : (kat rs i).toNat ≠ q := fun e => by
                          have h0 := (HC.out i (by omega)).1.1
                          exact HK.out i (by omega) (by omega)
                        rw [if_neg hne]
                        exact HE3.out i hij
                      · obtain rfl : i = j3 := by omega
                        rw [HX.out, if_pos (by simp), HTt.out]
                    · show (if m = q then t else g m) = _
                      by_cases hmq : m = q
                      · exact absurd (by rw [HX.out, hmq]) (hm j3 (by omega))
                      · rw [if_neg hmq]
                        exact HF3.out m (fun i hi => hm i (by omega))
                    · by_cases hkj : m < j3
                      · exact HP3.out i m hik hkj
                      · obtain rfl : m = j3 := by omega
                        rw [HX.out]
                        exact HK.out i (by omega)
            · have hj3 : j3 = n := by omega
              have k2 : ¬ ((j3 : Int) < n) := by omega
              obtain ⟨W4, hW4⟩ : ∃ W4, W4 = wr := ⟨_, rfl⟩
              subst hW4
              have HRk := hid (show Vc.Ranks rs sp from ⟨fun i hi => (HC.out i (by omega)).1, fun i hi => (HA.out i (by omega)).1, fun i m hik hm => HP3.out i m hik (by omega)⟩)
              have hTs := Ts.ofVr HG.out (by unfold maxLen; omega)
              have hTk : Vc.TokIs rs sp ((List.range N2).map g) := ⟨by simpa using HSz.out, fun i hi => by
                  have h0 := (HC.out i (by omega)).1.1
                  have h1 := (HC.out i (by omega)).2
                  have : (kat rs i).toNat < N2 := by omega
                  simpa [at_, this] using HE3.out i (by omega), fun m hm hno => by
                  have hm' : m < N2 := by simpa using hm
                  simpa [at_, hm'] using HF3.out m (fun i hi => hno i (by omega))⟩
              have hlen : ((List.range N2).map g).length = N2 := by simp
              obtain ⟨ts, hts⟩ : ∃ ts, (List.range N2).map g = ts := ⟨_, rfl⟩
              rw [hts] at hTs hTk hlen
              have HTs := hid hTs
              have HTk := hid hTk
              have HL := hid hlen
              clear hTs hTk hlen hts HE3 HF3 HP3 HC HD HA HT
              have Q4 := hid (QW.out.below HB3.out)
              have hR4 := HR3.out.lt
              have hK4 := HG.out.lt
              have O0 := hid (Rw.none (W4.alloc (.cells #[] 55)) 0 (some ⟨W4.heap.size, 0, none⟩) (Nat.zero_le _) (fun h => rfl))
              have B05 := hid ((Below.refl W4.heap.size W4).alloc (Nat.le_refl _) (.cells #[] 55))
              go_wp2_with fail
              go_loopg [12, 114] ns (fun r ov iv wr => ∃ (j go oo co : Nat) (so : Vc.Sps), r = ns - j ∧ ov = .slice (some ⟨go, oo, none⟩) j co ∧ iv = .int .i64 (j : Int) ∧ j ≤ ns ∧ Hid (Rw wr (some ⟨go, oo, none⟩) j co so) ∧ Hid (W4.heap.size ≤ go) ∧ Hid (so.Perm (sp.take j)) ∧ Hid (so.Pairwise (fun a b => ¬ Vc.NLt b.1 a.1)) ∧ Hid (Below W4.heap.size W4 wr))
              case atStart => exact ⟨0, W4.heap.size, 0, 0, [], rfl, rfl, rfl, by omega, O0, hid (Nat.le_refl _), hid (List.Perm.refl _), hid (List.Pairwise.nil), B05⟩
              case round =>
                obtain ⟨j, go, oo, co, so, rfl, rfl, rfl, hj, HO, HGo, HPm, HUp, HB⟩ := hrel
                obtain ⟨W5, hW5⟩ : ∃ W5, W5 = wr := ⟨_, rfl⟩
                subst hW5
                have hso := HO.out.len
                have hco := HO.out.le
                have hcm := HO.out.mx
                by_cases hlt : j < ns
                · have l0 : (0 : Int) ≤ j := by omega
                  have l1 : (j : Int) < ns := by omega
                  have l2 : IntKind.i64.wrap ((j : Int) + 1) = j + 1 := i64_in (by omega) (by omega)
                  obtain ⟨b2, f2, rfl, hb2, hc⟩ := Q4.out.at' (by omega)
                  obtain ⟨c1, c2⟩ := hc j hlt
                  obtain ⟨x, hx⟩ : ∃ x, tat sp j = x := ⟨_, rfl⟩
                  obtain ⟨kx, hkx⟩ : ∃ x, kat sp j = x := ⟨_, rfl⟩
                  rw [hx] at c1
                  rw [hkx] at c2
                  have HI := hid (show ∀ k, k ≤ j → (∀ i, i < k → ¬ Vc.NLt x (tat so i)) → (k < so.length → Vc.NLt x (tat so k)) → (so.take k ++ (x, kx) :: so.drop k).Perm (sp.take (j + 1)) ∧ (so.take k ++ (x, kx) :: so.drop k).Pairwise (fun a b => ¬ Vc.NLt b.1 a.1) from fun k hk h1 h2 => by
                    have hI : Vc.InsS so (x, kx) (so.take k ++ (x, kx) :: so.drop k) := ⟨k, by omega, rfl, h1, h2⟩
                    refine ⟨hI.perm.trans ?_, hI.up HUp.out⟩
                    rw [take_row (by omega), hx, hkx]
                    exact ((List.Perm.cons _ HPm.out).trans (List.perm_append_singleton _ _).symm))
                  clear hc hx hkx
                  have e1 := (HB.out.cell (p := ⟨b2, f2 + j * 2, none⟩) hb2).trans c1
                  go_wp2_with fail
                  go_loopg [14] (j + 1) (fun r iv wr2 => ∃ (k d : Nat), r = j + 1 - k ∧ iv = .int .i64 (k : Int) ∧ k ≤ j ∧ Hid (∀ i, i < k → ¬ Vc.NLt x (tat so i)) ∧ wr2 = W5.drewN d)
                  case atStart => exact ⟨0, 0, rfl, rfl, by omega, hid (fun i hi => by omega), rfl⟩
                  case round =>
                    obtain ⟨k, d, rfl, rfl, hk, HK, rfl⟩ := hrel
                    have m0 : (0 : Int) ≤ k := by omega
                    have m3 : (k : Int) ≤ co := by omega
                    have m4 : (k : Int) ≤ j := by omega
                    by_cases hlt2 : k < j
                    · have m1 : (k : Int) < j := by omega
                      have m2 : IntKind.i64.wrap ((k : Int) + 1) = k + 1 := i64_in (by omega) (by omega)
                      obtain ⟨bo, fo, hbo, hbol, hco2⟩ := HO.out.at' (by omega)
                      cases hbo
                      obtain ⟨z1, _⟩ := hco2 k hlt2
                      obtain ⟨y, hy⟩ : ∃ y, tat so k = y := ⟨_, rfl⟩
                      rw [hy] at z1
                      have HY := hid hy
                      clear hy hco2
                      by_cases hle : Vc.NLt x y
                      · have hb1 : (Op.bytesLess y.toList x.toList || y.toList == x.toList) = false := by
                          cases h : (Op.bytesLess y.toList x.toList || y.toList == x.toList)
                          · rfl
                          · exact absurd hle ((bl_leq y x).1 h)
                        have HE0 := hid hle
                        clear hle
                        go_wp2_with fail
                        go_quiet (fail)
                        obtain ⟨W6, hW6⟩ : ∃ W6, (W5.drewN d).drewN nq = W6 := ⟨_, rfl⟩
                        have HO6 := hid (show Rw W6 (some ⟨go, oo, none⟩) j co so from hW6 ▸ rw_drew (rw_drew HO.out _) _)
                        have B6 := hid (show Below W4.heap.size W4 W6 from hW6 ▸ below_drewN (below_drewN HB.out _) _)
                        rw [hW6]
                        clear hW6 HO z1 e1 hb1
                        have HO := HO6
                        clear HO6
                        have HE := hid (show k < so.length → Vc.NLt x (tat so k) from fun _ => by rw [HY.out]; exact HE0.out)
                        have hKw := B6.out.size
                        have B2 := hid (B6.out.alloc B6.out.size (.cells #[] 55))
                        have B2w := hid ((Below.refl W6.heap.size W6).alloc (Nat.le_refl _) (.cells #[] 55))
                        have S1 := hid ((HO.out.below B2w.out).first k hk).src
                        have OWN := hid (World.ownsRow_made (e := 55) (size := 2) W6 #[] 0 (Nat.le_refl _) (Nat.zero_le _) (by simp))
                        have BX3 := fun {w' : World} (g : (W6.alloc (.cells #[] 55)).grownBy w' (some W6.heap.size)) => B2w.out.grown g (by simp) (by rintro z ⟨⟩; exact Nat.le_refl _)
                        go_wp2_with (first | (at_builtin; refine wpList_append_src rfl _ _ 24 rfl W6.heap.size 55 i0 (.agg #[.string ⟨#[]⟩, .int .i64 0]) 2 24 Try.underlying24 hi hz0 hz1 hz2 rfl (by decide) _ _ _ rfl OWN.out (some ⟨go, oo, none⟩) k co (rv (so.take k)) rfl S1.out (by unfold maxLen; omega) (by omega) (by simp) ?_; intro v3 w3 own gr loc; have O3 := hid own; have G3 := hid gr; clear own gr loc; have B3 := hid (B2.out.grown G3.out B2.out.size (by rintro z ⟨⟩; exact hKw)); have y1 := (B3.out.cell (p := ⟨b2, f2 + j * 2, none⟩) hb2).trans c1; have y2 := (B3.out.cell (p := ⟨b2, f2 + j * 2 + 1, none⟩) hb2).trans c2; have hw3 := G3.out.size; have OB3 := hid (own_at O3.out); have B4 := hid (B3.out.alloc B3.out.size (.cells #[.string x, .int .i64 kx] 55)); clear OWN S1) | (at_builtin; refine wpList_append_src rfl _ _ 24 rfl W6.heap.size 55 i0 (.agg #[.string ⟨#[]⟩, .int .i64 0]) 2 24 Try.underlying24 hi hz0 hz1 hz2 rfl (by decide) v3 (0 + k) _ rfl (O3.out.alloc _) (some ⟨w3.heap.size, 0, none⟩) 1 1 [.string x, .int .i64 kx] rfl (src_row x kx _) (by unfold maxLen; omega) (by omega) (by simp at hw3 ⊢; omega) ?_; intro v5 w5 own gr loc; have O5 := hid own; have G5 := hid gr; clear own gr loc; have B5 := hid (B4.out.grown G5.out B4.out.size (fun z hz => by have := OB3.out z hz; omega)); have BX5 := hid (show Below W6.heap.size W6 w5 from (((BX3 G3.out).alloc (by simp at hw3; omega) _).grown G5.out (by simp at hw3 ⊢; omega) (fun z hz => OB3.out z hz))); have OB5 := hid (own_at O5.out); have hw5 := G5.out.size; have S2 := hid ((rw_drop (HO.out.below BX5.out) k (by omega)).src); clear O3 y1 y2) | (at_builtin; refine wpList_append_src rfl _ _ 24 rfl W6.heap.size 55 i0 (.agg #[.string ⟨#[]⟩, .int .i64 0]) 2 24 Try.underlying24 hi hz0 hz1 hz2 rfl (by decide) v5 (0 + k + 1) _ rfl O5.out (some ⟨go, oo + k * 2, none⟩) (j - k) (co - k) (rv (so.drop k)) rfl S2.out (by unfold maxLen; omega) (by omega) (by simp at hw3 hw5 ⊢; omega) ?_; intro v7 w7 own gr loc; have O7 := hid own; have G7 := hid gr; clear own gr loc; have B7 := hid (B5.out.grown G7.out B5.out.size (fun z hz => by have := OB5.out z hz; omega)); clear O5 S2))
                        have O8 := hid (show w7.ownsRow W6.heap.size 55 2 v7 (j + 1) (rv (so.take k ++ (x, kx) :: so.drop k)) from by
                          have := O7.out
                          rw [List.nil_append, rv_snoc, rv_append, List.append_assoc, show 0 + k + 1 + (j - k) = j + 1 by omega] at this
                          exact this)
                        obtain ⟨a', c', rfl, hq⟩ := Rw.ofOwn O8.out
                        obtain ⟨g', rfl⟩ := own_addr_some O8.out (by omega)
                        have HQ8 := hid hq
                        have HI8 := hid (hi_own O8.out)
                        clear hq O7 O8
                        go_roundg (ns - (j + 1))
                        case measure => omega
                        case rel =>
                          refine ⟨j + 1, g', 0, c', _, rfl, rfl, by go_num, by omega, HQ8, hid ?_, hid ((HI.out k hk HK.out HE.out).1), hid ((HI.out k hk HK.out HE.out).2), B7⟩
                          have := HI8.out _ _ _ rfl
                          omega
                      · have hb1 : (Op.bytesLess y.toList x.toList || y.toList == x.toList) = true := (bl_leq y x).2 hle
                        have HE0 := hid hle
                        clear hle
                        go_wp2_with fail
                        go_quiet (fail)
                        go_wp2_with fail
                        go_roundg (j + 1 - (k + 1))
                        case measure => omega
                        case rel => exact ⟨k + 1, d + nq, rfl, by go_num, by omega, hid (fun i hi => by
                          by_cases h : i < k
                          · exact HK.out i h
                          · obtain rfl : i = k := by omega
                            rw [HY.out]; exact HE0.out), rfl⟩
                    · have hkj : k = j := by omega
                      subst hkj
                      have m1 : ¬ (k : Int) < k := by omega
                      have d1 : decide ((k : Int) < k) = false := decide_eq_false m1
                      have HE := hid (show k < so.length → Vc.NLt x (tat so k) from fun h => by omega)
                      go_wp2_with fail
                      go_quiet (fail)
                      obtain ⟨W6, hW6⟩ : ∃ W6, (W5.drewN d).drewN nq = W6 := ⟨_, rfl⟩
                      have HO6 := hid (show Rw W6 (some ⟨go, oo, none⟩) k co so from hW6 ▸ rw_drew (rw_drew HO.out _) _)
                      have B6 := hid (show Below W4.heap.size W4 W6 from hW6 ▸ below_drewN (below_drewN HB.out _) _)
                      rw [hW6]
                      clear hW6 HO e1
                      have HO := HO6
                      clear HO6
                      by_cases hck : k = co
                      · subst hck
                        have hKw := B6.out.size
                        have B2 := hid (B6.out.alloc B6.out.size (.cells #[] 55))
                        have B2w := hid ((Below.refl W6.heap.size W6).alloc (Nat.le_refl _) (.cells #[] 55))
                        have S1 := hid ((HO.out.below B2w.out).first k hk).src
                        have OWN := hid (World.ownsRow_made (e := 55) (size := 2) W6 #[] 0 (Nat.le_refl _) (Nat.zero_le _) (by simp))
                        have BX3 := fun {w' : World} (g : (W6.alloc (.cells #[] 55)).grownBy w' (some W6.heap.size)) => B2w.out.grown g (by simp) (by rintro z ⟨⟩; exact Nat.le_refl _)
                        go_wp2_with (first | (at_builtin; refine wpList_append_src rfl _ _ 24 rfl W6.heap.size 55 i0 (.agg #[.string ⟨#[]⟩, .int .i64 0]) 2 24 Try.underlying24 hi hz0 hz1 hz2 rfl (by decide) _ _ _ rfl OWN.out (some ⟨go, oo, none⟩) k k (rv (so.take k)) rfl S1.out (by unfold maxLen; omega) (by omega) (by simp) ?_; intro v3 w3 own gr loc; have O3 := hid own; have G3 := hid gr; clear own gr loc; have B3 := hid (B2.out.grown G3.out B2.out.size (by rintro z ⟨⟩; exact hKw)); have y1 := (B3.out.cell (p := ⟨b2, f2 + k * 2, none⟩) hb2).trans c1; have y2 := (B3.out.cell (p := ⟨b2, f2 + k * 2 + 1, none⟩) hb2).trans c2; have hw3 := G3.out.size; have OB3 := hid (own_at O3.out); have B4 := hid (B3.out.alloc B3.out.size (.cells #[.string x, .int .i64 kx] 55)); clear OWN S1) | (at_builtin; refine wpList_append_src rfl _ _ 24 rfl W6.heap.size 55 i0 (.agg #[.string ⟨#[]⟩, .int .i64 0]) 2 24 Try.underlying24 hi hz0 hz1 hz2 rfl (by decide) v3 (0 + k) _ rfl (O3.out.alloc _) (some ⟨w3.heap.size, 0, none⟩) 1 1 [.string x, .int .i64 kx] rfl (src_row x kx _) (by unfold maxLen; omega) (by omega) (by simp at hw3 ⊢; omega) ?_; intro v5 w5 own gr loc; have O5 := hid own; have G5 := hid gr; clear own gr loc; have B5 := hid (B4.out.grown G5.out B4.out.size (fun z hz => by have := OB3.out z hz; omega)); have BX5 := hid (show Below W6.heap.size W6 w5 from (((BX3 G3.out).alloc (by simp at hw3; omega) _).grown G5.out (by simp at hw3 ⊢; omega) (fun z hz => OB3.out z hz))); have OB5 := hid (own_at O5.out); have hw5 := G5.out.size; have S2 := hid (show Src w5 (some ⟨go, oo, none⟩) 0 0 2 (rv (so.drop k)) from by rw [List.drop_of_length_le (by omega)]; exact ⟨rfl, (by simp [rv]), (fun h => by cases h), (fun _ _ z u hu => by simp [rv] at hu)⟩); clear O3 y1 y2) | (at_builtin; refine wpList_append_src rfl _ _ 24 rfl W6.heap.size 55 i0 (.agg #[.string ⟨#[]⟩, .int .i64 0]) 2 24 Try.underlying24 hi hz0 hz1 hz2 rfl (by decide) v5 (0 + k + 1) _ rfl O5.out (some ⟨go, oo, none⟩) 0 0 (rv (so.drop k)) rfl S2.out (by unfold maxLen; omega) (by omega) (by simp at hw3 hw5 ⊢; omega) ?_; intro v7 w7 own gr loc; have O7 := hid own; have G7 := hid gr; clear own gr loc; have B7 := hid (B5.out.grown G7.out B5.out.size (fun z hz => by have := OB5.out z hz; omega)); clear O5 S2))
                        have O8 := hid (show w7.ownsRow W6.heap.size 55 2 v7 (k + 1) (rv (so.take k ++ (x, kx) :: so.drop k)) from by
                          have := O7.out
                          rw [List.nil_append, rv_snoc, rv_append, List.append_assoc, show 0 + k + 1 + 0 = k + 1 by omega] at this
                          exact this)
                        obtain ⟨a', c', rfl, hq⟩ := Rw.ofOwn O8.out
                        obtain ⟨g', rfl⟩ := own_addr_some O8.out (by omega)
                        have HQ8 := hid hq
                        have HI8 := hid (hi_own O8.out)
                        clear hq O7 O8
                        go_roundg (ns - (k + 1))
                        case measure => omega
                        case rel =>
                          refine ⟨k + 1, g', 0, c', _, rfl, rfl, by go_num, by omega, HQ8, hid ?_, hid ((HI.out k hk HK.out HE.out).1), hid ((HI.out k hk HK.out HE.out).2), B7⟩
                          have := HI8.out _ _ _ rfl
                          omega
                      · have hck2 : ¬ co = k := fun h => hck h.symm
                        have hKw := B6.out.size
                        have B2 := hid (B6.out.alloc B6.out.size (.cells #[] 55))
                        have B2w := hid ((Below.refl W6.heap.size W6).alloc (Nat.le_refl _) (.cells #[] 55))
                        have S1 := hid ((HO.out.below B2w.out).first k hk).src
                        have OWN := hid (World.ownsRow_made (e := 55) (size := 2) W6 #[] 0 (Nat.le_refl _) (Nat.zero_le _) (by simp))
                        have BX3 := fun {w' : World} (g : (W6.alloc (.cells #[] 55)).grownBy w' (some W6.heap.size)) => B2w.out.grown g (by simp) (by rintro z ⟨⟩; exact Nat.le_refl _)
                        go_wp2_with (first | (at_builtin; refine wpList_append_src rfl _ _ 24 rfl W6.heap.size 55 i0 (.agg #[.string ⟨#[]⟩, .int .i64 0]) 2 24 Try.underlying24 hi hz0 hz1 hz2 rfl (by decide) _ _ _ rfl OWN.out (some ⟨go, oo, none⟩) k co (rv (so.take k)) rfl S1.out (by unfold maxLen; omega) (by omega) (by simp) ?_; intro v3 w3 own gr loc; have O3 := hid own; have G3 := hid gr; clear own gr loc; have B3 := hid (B2.out.grown G3.out B2.out.size (by rintro z ⟨⟩; exact hKw)); have y1 := (B3.out.cell (p := ⟨b2, f2 + k * 2, none⟩) hb2).trans c1; have y2 := (B3.out.cell (p := ⟨b2, f2 + k * 2 + 1, none⟩) hb2).trans c2; have hw3 := G3.out.size; have OB3 := hid (own_at O3.out); have B4 := hid (B3.out.alloc B3.out.size (.cells #[.string x, .int .i64 kx] 55)); clear OWN S1) | (at_builtin; refine wpList_append_src rfl _ _ 24 rfl W6.heap.size 55 i0 (.agg #[.string ⟨#[]⟩, .int .i64 0]) 2 24 Try.underlying24 hi hz0 hz1 hz2 rfl (by decide) v3 (0 + k) _ rfl (O3.out.alloc _) (some ⟨w3.heap.size, 0, none⟩) 1 1 [.string x, .int .i64 kx] rfl (src_row x kx _) (by unfold maxLen; omega) (by omega) (by simp at hw3 ⊢; omega) ?_; intro v5 w5 own gr loc; have O5 := hid own; have G5 := hid gr; clear own gr loc; have B5 := hid (B4.out.grown G5.out B4.out.size (fun z hz => by have := OB3.out z hz; omega)); have BX5 := hid (show Below W6.heap.size W6 w5 from (((BX3 G3.out).alloc (by simp at hw3; omega) _).grown G5.out (by simp at hw3 ⊢; omega) (fun z hz => OB3.out z hz))); have OB5 := hid (own_at O5.out); have hw5 := G5.out.size; have S2 := hid (show Src w5 (some ⟨go, oo + k * 2, none⟩) 0 (co - k) 2 (rv (so.drop k)) from by rw [List.drop_of_length_le (by omega)]; exact ⟨rfl, (by simp [rv]), (fun h => by cases h), (fun _ _ z u hu => by simp [rv] at hu)⟩); clear O3 y1 y2) | (at_builtin; refine wpList_append_src rfl _ _ 24 rfl W6.heap.size 55 i0 (.agg #[.string ⟨#[]⟩, .int .i64 0]) 2 24 Try.underlying24 hi hz0 hz1 hz2 rfl (by decide) v5 (0 + k + 1) _ rfl O5.out (some ⟨go, oo + k * 2, none⟩) 0 (co - k) (rv (so.drop k)) rfl S2.out (by unfold maxLen; omega) (by omega) (by simp at hw3 hw5 ⊢; omega) ?_; intro v7 w7 own gr loc; have O7 := hid own; have G7 := hid gr; clear own gr loc; have B7 := hid (B5.out.grown G7.out B5.out.size (fun z hz => by have := OB5.out z hz; omega)); clear O5 S2))
                        have O8 := hid (show w7.ownsRow W6.heap.size 55 2 v7 (k + 1) (rv (so.take k ++ (x, kx) :: so.drop k)) from by
                          have := O7.out
                          rw [List.nil_append, rv_snoc, rv_append, List.append_assoc, show 0 + k + 1 + 0 = k + 1 by omega] at this
                          exact this)
                        obtain ⟨a', c', rfl, hq⟩ := Rw.ofOwn O8.out
                        obtain ⟨g', rfl⟩ := own_addr_some O8.out (by omega)
                        have HQ8 := hid hq
                        have HI8 := hid (hi_own O8.out)
                        clear hq O7 O8
                        go_roundg (ns - (k + 1))
                        case measure => omega
                        case rel =>
                          refine ⟨k + 1, g', 0, c', _, rfl, rfl, by go_num, by omega, HQ8, hid ?_, hid ((HI.out k hk HK.out HE.out).1), hid ((HI.out k hk HK.out HE.out).2), B7⟩
                          have := HI8.out _ _ _ rfl
                          omega
                · obtain rfl : j = ns := by omega
                  have l1 : ¬ (j : Int) < j := by omega
                  have R5 := hid (HR3.out.below HB.out hR4)
                  have T5 := hid (HTs.out.below HB.out)
                  have B5 := hid (HB3.out.trans (HB.out.mono HB3.out.size))
                  have HS := hid (show Vc.SpIs sp so from ⟨by have := HPm.out; rwa [List.take_of_length_le (by omega)] at this, HUp.out⟩)
                  have hg5 := HGo.out
                  go_wp2_with fail
                  refine (rmayTokens_calls T5.out).mono ?_
                  rintro e w8 ⟨⟨t, rfl, ht⟩, b8⟩
                  have R8 := hid (R5.out.below b8 R5.out.lt)
                  have T8 := hid (T5.out.below b8)
                  have O8 := hid (HO.out.below b8)
                  have B8 := hid (B5.out.trans (b8.mono B5.out.size))
                  have HMt := hid ht
                  clear b8 ht R5 T5 B5
                  have Mw := hid (mut_three w8 w.heap.size (.slice (some ⟨w.heap.size + 1, 0, none⟩) N2 N2) (.slice none 0 0) (.slice (some ⟨go, oo, none⟩) j co) (S := fun i => i = w.heap.size) rfl)
                  have T9 := hid (T8.out.mut Mw.out (hi_some (Nat.le_refl (w.heap.size + 1))) (fun i hi => by omega))
                  have O9 := hid (O8.out.mut Mw.out (hi_some (N := w.heap.size + 1) (by omega)) (fun i hi => by omega))
                  obtain ⟨y1, y2, y3⟩ := ret_three R8.out (.slice (some ⟨w.heap.size + 1, 0, none⟩) N2 N2) (.slice none 0 0) (.slice (some ⟨go, oo, none⟩) j co)
                  have BB := hid (below_three B8.out (R := w.heap.size) (Nat.le_refl _) (.slice (some ⟨w.heap.size + 1, 0, none⟩) N2 N2) (.slice none 0 0) (.slice (some ⟨go, oo, none⟩) j co))
                  have p0 := R8.out.cell0
                  have p1 := R8.out.cell1
                  have p2 := R8.out.cell2
                  have q0 := R8.out.fr 0
                  have q1 := R8.out.fr 1
                  have q2 := R8.out.fr 2
                  have u1 := y1.cell1
                  have v1 := y1.fr 1
                  have u2 := y2.cell2
                  have v2 := y2.fr 2
                  have r0 := y3.cell0
                  have r1 := y3.cell1
                  have r2 := y3.cell2
                  unfold three at r0 r1 r2
                  clear y1 y2 y3
                  go_wp2_with fail
                  refine bodyPost_ret (v := .tuple #[.agg #[.slice (some ⟨w.heap.size + 1, 0, none⟩) N2 N2, .slice none 0 0, .slice (some ⟨go, oo, none⟩) j co], .bool t]) (by simp [results, Try.results40, go_sem, r0, r1, r2]) rfl ?_
                  exact ⟨.inl ⟨HRk.out, ts, so, w.heap.size + 1, some ⟨go, oo, none⟩, j, co, t, ⟨by omega, hi_some (by omega)⟩, HTk.out, HMt.out, HS.out, by rw [HL.out], by rw [HL.out]; exact T9.out, O9.out⟩, BB.out⟩
  end Go.Proofs.Ytfgbpjajkmfkoaa
