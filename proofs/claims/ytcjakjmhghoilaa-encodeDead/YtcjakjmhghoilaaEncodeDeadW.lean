/-
  The walk of the law EncodeDead.
-/
import Derived.Test.YtcjakjmhghoilaaEnFd
namespace Go.Proofs.Ytcjakjmhghoilaa
open Go.RowKit Go.Maps
set_option linter.unusedVariables false
open Pr (it)
set_option maxRecDepth 100000 in
set_option maxHeartbeats 12800000 in
theorem encodeDead_calls {w : World} {a am az ba : Option Addr} {n c nm cm ns cs bn bc : Nat} {f : Nat → Int} {ts : Vc.Toks} {ms : List Mg4} {sp : Vc.Sps} (V : Vo w a n c am nm cm az ns cs ts ms sp) (S : Sl w ba bn bc f) :
    Calls Try.prog 7 #[.agg #[.slice a n c, .slice am nm cm, .slice az ns cs], .slice ba bn bc] w fun e w' => e = .returned (.bool true) ∧ Below w.heap.size w w' := by
  have hl := V.T.len
  have hlm := V.M.len
  have B0 := hid ((Below.refl w.heap.size w).alloc (Nat.le_refl _) (.cells #[.slice a n c, .slice am nm cm, .slice az ns cs] 26))
  have X0 := hid (Bx3.new w 26 (.slice a n c) (.slice am nm cm) (.slice az ns cs))
  have V0 := hid (V.below B0.out)
  have S0 := hid (S.below B0.out)
  clear V S
  have x0 := X0.out.cell0
  have x1 := X0.out.cell1
  have x2 := X0.out.cell2
  go_enter Try.func7, Try.ntmps7
  go_wp2_with fail
  refine (rgreat_calls V0.out).mono ?_
  rintro e w1 ⟨⟨g, rfl, hg⟩, b1⟩
  have X1 := hid (X0.out.below b1 X0.out.lt)
  have V1 := hid (V0.out.below b1)
  have S1 := hid (S0.out.below b1)
  have B1 := hid (B0.out.trans (b1.mono B0.out.size))
  have HG := hid hg
  clear hg b1 X0 V0 B0 S0 x0 x1 x2
  cases g
  rotate_left
  · skip
    go_wp2_with fail
    refine (efixed_calls _).mono ?_
    rintro e wf ⟨rfl, bf⟩
    have BF := hid (B1.out.trans (bf.mono B1.out.size))
    clear bf
    go_wp2_with fail
    go_ret
    exact ⟨rfl, BF.out⟩
  have HSm := hid (show Vc.Small ts ms sp from Classical.byContradiction fun h => absurd (HG.out.2 h) (by decide))
  have hnm : nm ≤ 1000000 := by have := HSm.out.m; omega
  clear HG
  have x0 := X1.out.cell0
  have x1 := X1.out.cell1
  have x2 := X1.out.cell2
  by_cases hbig : 40 < bn
  · have k1 : ((40 : Int) < (bn : Int)) := by omega
    go_wp2_with fail
    refine (efixed_calls _).mono ?_
    rintro e wf ⟨rfl, bf⟩
    have BF := hid (B1.out.trans (bf.mono B1.out.size))
    clear bf
    go_wp2_with fail
    go_ret
    exact ⟨rfl, BF.out⟩
  have k1 : ¬ ((40 : Int) < (bn : Int)) := by omega
  go_wp2_with fail
  refine (rmay_calls V1.out (fun i hi => Nat.le_trans (HSm.out.sz i hi) (by decide))).mono ?_
  rintro e w2 ⟨⟨g, rfl, hg⟩, b2⟩
  have X2 := hid (X1.out.below b2 X1.out.lt)
  have V2 := hid (V1.out.below b2)
  have S2 := hid (S1.out.below b2)
  have B2 := hid (B1.out.trans (b2.mono B1.out.size))
  have HG := hid hg
  clear hg b2 X1 V1 B1 S1 x0 x1 x2
  cases g
  · skip
    go_wp2_with fail
    refine (efixed_calls _).mono ?_
    rintro e wf ⟨rfl, bf⟩
    have BF := hid (B2.out.trans (bf.mono B2.out.size))
    clear bf
    go_wp2_with fail
    go_ret
    exact ⟨rfl, BF.out⟩
  have HM := hid (HG.out.1 rfl)
  clear HG
  have x0 := X2.out.cell0
  have x1 := X2.out.cell1
  have x2 := X2.out.cell2
  go_wp2_with fail
  go_loopg [5, 31] n (fun r sv kv wr => ∃ (j S : Nat), r = n - j ∧ j ≤ n ∧ sv = .int .i64 (S : Int) ∧ kv = .int .i64 (j : Int) ∧ S ≤ j * 80 ∧ w2 = wr)
  case atStart => exact ⟨0, 0, rfl, by omega, rfl, rfl, by omega, rfl⟩
  case round =>
    obtain ⟨j, S, rfl, hj, rfl, rfl, hS, rfl⟩ := hrel
    have hn4 := HSm.out.t
    by_cases hlt : j < n
    · have l0 : (0 : Int) ≤ j := by omega
      have l1 : (j : Int) < n := by omega
      have l2 : IntKind.i64.wrap ((j : Int) + 1) = j + 1 := i64_in (by omega) (by omega)
      obtain ⟨bb, bo, rfl, hbl, hc⟩ := V2.out.T.at' (by omega)
      have p0 := hc j hlt
      have hz := HSm.out.tz j (by omega)
      obtain ⟨s, hs⟩ : ∃ s, at_ ts j = s := ⟨_, rfl⟩
      rw [hs] at p0 hz
      clear hc hs
      by_cases h1 : 1 < s.size
      · have m1 : (1 : Int) < s.size := by omega
        have m2 : IntKind.i64.wrap ((S : Int) + (s.size : Int)) = ((S + s.size : Nat) : Int) := by rw [i64_in (by omega) (by omega)]; omega
        go_wp2_with fail
        go_roundg (n - (j + 1))
        case measure => omega
        case rel => exact ⟨j + 1, S + s.size, rfl, by omega, by go_num, by go_num, by omega, rfl⟩
      · have m1 : ¬ (1 : Int) < s.size := by omega
        go_wp2_with fail
        go_roundg (n - (j + 1))
        case measure => omega
        case rel => exact ⟨j + 1, S, rfl, by omega, rfl, by go_num, by omega, rfl⟩
    · have l1 : ¬ (j : Int) < n := by omega
      by_cases h400 : 400 < S
      · have m1 : (400 : Int) < S := by omega
        go_wp2_with fail
        refine (efixed_calls _).mono ?_
        rintro e wf ⟨rfl, bf⟩
        have BF := hid (B2.out.trans (bf.mono B2.out.size))
        clear bf
        go_wp2_with fail
        go_ret
        exact ⟨rfl, BF.out⟩
      have m1 : ¬ (400 : Int) < S := by omega
      go_wp2_with fail
      refine (enew_calls V2.out (fun i hi => Nat.le_trans (HSm.out.tz i (by omega)) (by decide))).mono ?_
      rintro e w3 ⟨E3, b3⟩
      have X3 := hid (X2.out.below b3 X2.out.lt)
      have V3 := hid (V2.out.below b3)
      have S3 := hid (S2.out.below b3)
      have B3 := hid (B2.out.trans (b3.mono B2.out.size))
      clear b3 X2 V2 B2 S2 x0 x1 x2
      rcases E3 with ⟨_, B, rfl, hC⟩ | ⟨hM, _⟩
      rotate_left
      · exact absurd HM.out hM
      have C3 := hid hC
      clear hC
      have x0 := X3.out.cell0
      have x1 := X3.out.cell1
      have x2 := X3.out.cell2
      go_wp2_with fail
      refine (edead_calls C3.out).mono ?_
      rintro e w4 ⟨⟨a4, n4, c4, rfl, i4⟩, b4⟩
      have X4 := hid (X3.out.below b4 X3.out.lt)
      have V4 := hid (V3.out.below b4)
      have S4 := hid (S3.out.below b4)
      have C4 := hid (C3.out.below b4)
      have B4 := hid (B3.out.trans (b4.mono B3.out.size))
      have I4 := hid i4
      clear b4 i4 X3 V3 B3 S3 C3 x0 x1 x2
      have x0 := X4.out.cell0
      have x1 := X4.out.cell1
      have x2 := X4.out.cell2
      go_wp2_with fail
      refine (rdead_calls V4.out HM.out.T hnm).mono ?_
      rintro e w5 ⟨⟨a5, n5, c5, rfl, i5⟩, b5⟩
      have S5 := hid (S4.out.below b5)
      have C5 := hid (C4.out.below b5)
      have B5 := hid (B4.out.trans (b5.mono B4.out.size))
      have I5 := hid (I4.out.below b5)
      have J5 := hid i5
      clear b5 i5 X4 V4 B4 S4 C4 I4 x0 x1 x2
      go_wp2_with fail
      refine (says_is (b := true) (same_calls I5.out J5.out) (by simp)).mono ?_
      rintro e w6 ⟨rfl, b6⟩
      have S6 := hid (S5.out.below b6)
      have C6 := hid (C5.out.below b6)
      have B6 := hid (B5.out.trans (b6.mono B5.out.size))
      have I6 := hid (I5.out.below b6)
      clear b6 B5 S5 C5 I5 J5
      go_wp2_with fail
      refine (eenc_calls C6.out S6.out (by omega)).mono ?_
      rintro e w7 ⟨⟨a7, n7, c7, rfl, i7⟩, b7⟩
      have B7 := hid (B6.out.trans (b7.mono B6.out.size))
      have I7 := hid (I6.out.below b7)
      have J7 := hid i7
      have hne : Hid (∀ i, i < n7 → ∀ k, k < n4 → it (Pr.enc ms (Vc.bt ts) (by_ (str f bn))) i ≠ it (Pr.dead ts ms ts.length) k) := fun i hi k hk e => by
        have h1 := Pr.it_mem (xs := Pr.enc ms (Vc.bt ts) (by_ (str f bn))) (i := i) (by rw [i7.len]; exact hi)
        have h2 := Pr.it_mem (xs := Pr.dead ts ms ts.length) (i := k) (by rw [I7.out.len]; exact hk)
        rw [← e] at h2
        exact Pr.enc_alive HM.out.M HM.out.T h1 h2
      have hd4 := Pr.dead_len ts ms ts.length
      rw [I7.out.len] at hd4
      have he7 := Pr.enc_len (ms := ms) (f := Vc.bt ts) (by_ (str f bn))
      rw [i7.len, by_length, str_size] at he7
      obtain ⟨xs, hxs⟩ : ∃ xs, Pr.enc ms (Vc.bt ts) (by_ (str f bn)) = xs := ⟨_, rfl⟩
      obtain ⟨ds, hds⟩ : ∃ ds, Pr.dead ts ms ts.length = ds := ⟨_, rfl⟩
      rw [hxs] at J7 hne
      rw [hds] at I7 hne
      clear b7 i7 B6 S6 C6 I6 hxs hds
      go_wp2_with fail
      go_loopg [62] n7 (fun r kv wr => ∃ j : Nat, r = n7 - j ∧ j ≤ n7 ∧ kv = .int .i64 (j : Int) ∧ w7 = wr)
      case atStart => exact ⟨0, rfl, by omega, rfl, rfl⟩
      case round =>
        obtain ⟨j, rfl, hj, rfl, rfl⟩ := hrel
        by_cases hlt : j < n7
        · have l0 : (0 : Int) ≤ j := by omega
          have l1 : (j : Int) < n7 := by omega
          have l2 : IntKind.i64.wrap ((j : Int) + 1) = j + 1 := i64_in (by omega) (by omega)
          obtain ⟨b1, o1, rfl, _, hc1⟩ := J7.out.at' (by omega)
          have p1 := hc1 j hlt
          have hn1 := hid (hne.out j hlt)
          obtain ⟨x, hx⟩ : ∃ x, it xs j = x := ⟨_, rfl⟩
          rw [hx] at p1 hn1
          clear hc1 hx
          go_wp2_with fail
          go_loopg [68] n4 (fun r kv wr => ∃ i : Nat, r = n4 - i ∧ i ≤ n4 ∧ kv = .int .i64 (i : Int) ∧ w7 = wr)
          case atStart => exact ⟨0, rfl, by omega, rfl, rfl⟩
          case round =>
            obtain ⟨i, rfl, hi, rfl, rfl⟩ := hrel
            by_cases hlt2 : i < n4
            · have k0 : (0 : Int) ≤ i := by omega
              have k2 : (i : Int) < n4 := by omega
              have k3 : IntKind.i64.wrap ((i : Int) + 1) = i + 1 := i64_in (by omega) (by omega)
              obtain ⟨b2, o2, rfl, _, hc2⟩ := I7.out.at' (by omega)
              have p2 := hc2 i hlt2
              have hn2 := hn1.out i hlt2
              obtain ⟨y, hy⟩ : ∃ y, it ds i = y := ⟨_, rfl⟩
              rw [hy] at p2 hn2
              have e3 : (x == y) = false := by simpa using hn2
              clear hc2 hy
              go_wp2_with fail
              go_roundg (n4 - (i + 1))
              case measure => omega
              case rel => exact ⟨i + 1, rfl, by omega, by go_num, rfl⟩
            · have k2 : ¬ (i : Int) < n4 := by omega
              go_wp2_with fail
              go_roundg (n7 - (j + 1))
              case measure => omega
              case rel => exact ⟨j + 1, rfl, by omega, by go_num, rfl⟩
        · have l1 : ¬ (j : Int) < n7 := by omega
          go_wp2_with fail
          refine (efixed_calls _).mono ?_
          rintro e wf ⟨rfl, bf⟩
          have BF := hid (B7.out.trans (bf.mono B7.out.size))
          clear bf
          go_wp2_with fail
          go_ret
          exact ⟨rfl, BF.out⟩
end Go.Proofs.Ytcjakjmhghoilaa
