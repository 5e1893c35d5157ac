/-
  Walk of the reference's FromRows.
-/
import Derived.Test.YtfgbpjajkmfkoaaVrB
import Derived.Test.YtfgbpjajkmfkoaaVrP
import Derived.Test.YtfgbpjajkmfkoaaVrW3
import Derived.Test.YtfgbpjajkmfkoaaVcF0
namespace Go.Proofs.Ytfgbpjajkmfkoaa
open Go.RowKit Go.Maps
set_option linter.unusedVariables false

/-- The number of a token, or -1. -/
def Vc.ofZ (ts : Vc.Toks) (s : ByteArray) : Int := match Vc.num ts s with | some k => (k : Int) | none => -1
theorem of_num {ts : Vc.Toks} {s : ByteArray} {r : Int} (hT : Vc.MayT ts) (h : Vc.OfIs ts s r) : r = Vc.ofZ ts s := by
  unfold Vc.ofZ
  rcases h with ⟨h0, rfl⟩ | ⟨h0, ⟨j, rfl, hj, he, hf⟩ | ⟨rfl, hf⟩⟩
  · cases hk : Vc.num ts s with
    | none => rfl
    | some k => exact absurd h0 (Vc.num_some hk).2.2
  · have := Vc.num_at hT hj (by rw [he]; exact h0)
    rw [he] at this
    rw [this]
  · cases hk : Vc.num ts s with
    | none => rfl
    | some k => exact absurd (Vc.num_some hk).2.1 (hf k (Vc.num_some hk).1)
theorem ofZ_ways (ts : Vc.Toks) (s : ByteArray) : (∃ k : Nat, Vc.num ts s = some k ∧ Vc.ofZ ts s = k ∧ k < ts.length) ∨ (Vc.num ts s = none ∧ Vc.ofZ ts s = -1) := by
  unfold Vc.ofZ
  cases hk : Vc.num ts s with
  | none => exact .inr ⟨rfl, rfl⟩
  | some k => exact .inl ⟨k, rfl, rfl, (Vc.num_some hk).1⟩
theorem rofZ_calls {w : World} {a : Option Addr} {n c : Nat} {ts : Vc.Toks} (V : Ts w a n c ts) (hT : Vc.MayT ts) (s : ByteArray) :
    Calls Try.prog 36 #[.slice a n c, .string s] w fun e w' => e = .returned (.int .i64 (Vc.ofZ ts s)) ∧ w' = w := by
  refine (rof_calls V s).mono ?_
  rintro e w1 ⟨⟨r, rfl, hr⟩, rfl⟩
  exact ⟨by rw [of_num hT hr], rfl⟩
theorem sp_small {sp sp' : Vc.Sps} {N : Nat} (h : Vc.SpIs sp sp') (hz : ∀ i, i < sp.length → (tat sp i).size ≤ N) (i : Nat) (hi : i < sp'.length) : (tat sp' i).size ≤ N := by
  obtain ⟨k, hk, he, _⟩ := mem_row (h.perm.mem_iff.1 (row_mem hi))
  have := hz k hk
  rw [he] at this
  exact this

/-- What the reference's FromRows answers. -/
def RfOut (rs sp : Vc.Sps) (e : Ending) (w' : World) : Prop :=
  (∃ ts ms sp' a n c am nm cm az ns cs, Vc.FromIs rs sp ts ms sp' ∧ e = .returned (.tuple #[.agg #[.slice a n c, .slice am nm cm, .slice az ns cs], .bool true]) ∧ Vo w' a n c am nm cm az ns cs ts ms sp') ∨
  (Vc.NoFrom rs sp ∧ e = .returned (.tuple #[.agg #[.slice none 0 0, .slice none 0 0, .slice none 0 0], .bool false]))

set_option maxRecDepth 100000 in
set_option maxHeartbeats 6400000 in
theorem rfromRows_calls {w : World} {a az : Option Addr} {n c ns cs : Nat} {rs sp : Vc.Sps} (V : Rw w a n c rs) (Q : Rw w az ns cs sp) (hn : n ≤ 1000) (hns : ns ≤ 1000) (hzs : ∀ i, i < sp.length → (tat sp i).size ≤ 1000000) :
    Calls Try.prog 31 #[.slice a n c, .slice az ns cs] w fun e w' => RfOut rs sp e w' ∧ Below w.heap.size w w' := by
  have B0 := hid ((Below.refl w.heap.size w).alloc (Nat.le_refl _) (.cells #[.slice none 0 0, .slice none 0 0, .slice none 0 0] 26))
  have R0 := hid (Bx3.new w 26 (.slice none 0 0) (.slice none 0 0) (.slice none 0 0))
  have s0 : (w.alloc (.cells #[.slice none 0 0, .slice none 0 0, .slice none 0 0] 26)).heap.size = w.heap.size + 1 := by simp
  have V0 := hid (V.below B0.out)
  have Q0 := hid (Q.below B0.out)
  have HZs := hid hzs
  clear V Q hzs
  go_enter Try.func31, Try.ntmps31
  go_wp2_with fail
  refine (rbase_calls V0.out Q0.out hn hns).mono ?_
  rintro e w1 ⟨E1, b1⟩
  have R1 := hid (R0.out.below b1 R0.out.lt)
  have B1 := hid (B0.out.trans (b1.mono B0.out.size))
  have hw1 := b1.size
  rw [s0] at E1 hw1
  clear b1 B0 R0 V0 Q0
  rcases E1 with ⟨hR, ts, sp', b, z1, zn, zc, t, ⟨hb, hzh⟩, hT, hM, hS, rfl, hTs, hRs⟩ | ⟨hno, rfl⟩
  · obtain ⟨N, hN⟩ : ∃ N, ts.length = N := ⟨_, rfl⟩
    have HN := hid hN
    have HT := hid hT
    rw [hN] at hTs ⊢
    clear hN
    have R2 := hid (R1.out.alloc (.cells #[.slice (some ⟨b, 0, none⟩) N N, .slice none 0 0, .slice z1 zn zc] 26))
    have B2 := hid (B1.out.alloc B1.out.size (.cells #[.slice (some ⟨b, 0, none⟩) N N, .slice none 0 0, .slice z1 zn zc] 26))
    cases t
    · have HF := hid (Vc.noFrom_tok hT (fun h => absurd (hM.2 h) (by decide)))
      clear hR hT hM hS hTs hRs hzh
      obtain ⟨y1, y2, y3⟩ := ret_three R2.out (.slice none 0 0) (.slice none 0 0) (.slice none 0 0)
      have BB := hid (below_three B2.out (R := w.heap.size) (Nat.le_refl _) (.slice none 0 0) (.slice none 0 0) (.slice none 0 0))
      have p0 := R2.out.cell0
      have p1 := R2.out.cell1
      have p2 := R2.out.cell2
      have q0 := R2.out.fr 0
      have q1 := R2.out.fr 1
      have q2 := R2.out.fr 2
      have u1 := y1.cell1
      have v1 := y1.fr 1
      have u2 := y2.cell2
      have v2 := y2.fr 2
      have r0 := y3.cell0
      have r1 := y3.cell1
      have r2 := y3.cell2
      unfold three at r0 r1 r2
      clear y1 y2 y3
      go_wp2_with fail
      refine bodyPost_ret (v := .tuple #[.agg #[.slice none 0 0, .slice none 0 0, .slice none 0 0], .bool false]) (by simp [results, Try.results31, go_sem, r0, r1, r2]) rfl ?_
      exact ⟨.inr ⟨HF.out, rfl⟩, BB.out⟩
    · have hMT := hM.1 rfl
      have HM := hid hMT
      have HR := hid hR
      have HS := hid hS
      have T1 := hid hTs
      have Q1 := hid hRs
      have HH := hid hzh
      have Hb := hid (show Hi (w.heap.size + 1) (some ⟨b, 0, none⟩) from hi_some hb)
      have hN4 : N ≤ 4096 := by rw [← HN.out]; exact hMT.len
      have HZ := hid hMT.sz
      clear hR hT hM hS hTs hRs hzh hMT
      obtain ⟨K, hK⟩ : ∃ K, w1.heap.size = K := ⟨_, rfl⟩
      have X2 := hid (Bx3.new w1 26 (.slice (some ⟨b, 0, none⟩) N N) (.slice none 0 0) (.slice z1 zn zc))
      have C2 := hid ((Below.refl w1.heap.size w1).alloc (Nat.le_refl _) (.cells #[.slice (some ⟨b, 0, none⟩) N N, .slice none 0 0, .slice z1 zn zc] 26))
      have M2 := hid (Qw.none (w1.alloc (.cells #[.slice (some ⟨b, 0, none⟩) N N, .slice none 0 0, .slice z1 zn zc] 26)) 0 none (Nat.zero_le _) (fun _ => rfl))
      have x0 := X2.out.cell0
      rw [hK] at X2 hw1 x0
      have hKb := Hb.out _ _ _ rfl
      go_wp2_with fail
      try rw [hK]
      go_loopg [25] N (fun r iv wr => ∃ (j nm cm : Nat) (am : Option Addr) (ms : List Mg4), r = N - j ∧ iv = .int .i64 (j : Int) ∧ j ≤ N ∧ Hid (ms.Perm (Vc.cutsL ts j)) ∧ Hid (ms.Pairwise (fun a b => ¬ Vc.Ahead b a)) ∧ Hid (Qw wr am nm cm ms) ∧ Hid (Hi (K + 1) am ∧ (am = none ∨ ∃ b off, am = some ⟨b, off, none⟩)) ∧ Hid (Bx3 wr K 26 (.slice (some ⟨b, 0, none⟩) N N) (.slice am nm cm) (.slice z1 zn zc)) ∧ Hid (Below K w1 wr))
      case atStart => exact ⟨0, 0, 0, none, [], rfl, rfl, by omega, hid (List.Perm.refl _), hid List.Pairwise.nil, M2, hid ⟨hi_none _, .inl rfl⟩, X2, by rw [← hK]; exact C2⟩
      case round =>
        obtain ⟨j, nm, cm, am, ms, rfl, rfl, hj, HP, HU, HQ, HA, HX, HB⟩ := hrel
        obtain ⟨W3, hW3⟩ : ∃ W3, W3 = wr := ⟨_, rfl⟩
        subst hW3
        have hm := HQ.out.len
        have x0 := HX.out.cell0
        by_cases hlt : j < N
        · have l0 : (0 : Int) ≤ j := by omega
          have l1 : (j : Int) < N := by omega
          have l2 : IntKind.i64.wrap ((j : Int) + 1) = j + 1 := i64_in (by omega) (by omega)
          have T3 := hid (T1.out.below (hK ▸ HB.out))
          obtain ⟨b', off', hbe, hbl, hc⟩ := T3.out.at' (by omega)
          cases hbe
          have q1 : W3.cell? ⟨b, j, none⟩ = some (.string (at_ ts j)) := by have := hc j hlt; rwa [Nat.zero_add] at this
          have hzj := HZ.out j (by have := HN.out; omega)
          have hcl := Vc.cutsL_len (ts := ts) HZ.out j (by have := HN.out; omega)
          obtain ⟨s, hs⟩ : ∃ s, at_ ts j = s := ⟨_, rfl⟩
          rw [hs] at q1 hzj
          have HSs := hid hs
          clear hc hs
          obtain ⟨m, hsm⟩ : ∃ m, s.size = m := ⟨_, rfl⟩
          rw [hsm] at hzj
          go_wp2_with fail
          go_loopg [10] m (fun r iv wr => ∃ (k nm cm : Nat) (am : Option Addr) (ms : List Mg4), r = m - k ∧ iv = .int .i64 ((k : Int) + 1) ∧ k ≤ m ∧ (m = 0 ∧ k = 0 ∨ k + 1 ≤ m) ∧ Hid (ms.Perm (Vc.cutsL ts j ++ Vc.cutsTo ts j k)) ∧ Hid (ms.Pairwise (fun a b => ¬ Vc.Ahead b a)) ∧ Hid (Qw wr am nm cm ms) ∧ Hid (Hi (K + 1) am ∧ (am = none ∨ ∃ b off, am = some ⟨b, off, none⟩)) ∧ Hid (Bx3 wr K 26 (.slice (some ⟨b, 0, none⟩) N N) (.slice am nm cm) (.slice z1 zn zc)) ∧ Hid (Below K w1 wr))
          case atStart => exact ⟨0, nm, cm, am, ms, rfl, rfl, by omega, by omega, by simpa [Vc.cutsTo] using HP, HU, HQ, HA, HX, HB⟩
          case round =>
            clear HP HU HQ HA HX HB hm x0 T3
            obtain ⟨k, nm, cm, am, ms, rfl, rfl, hk, hk2, HP, HU, HQ, HA, HX, HB⟩ := hrel
            obtain ⟨W4, hW4⟩ : ∃ W4, W4 = wr := ⟨_, rfl⟩
            subst hW4
            have hm := HQ.out.len
            have x0 := HX.out.cell0
            have hct := Vc.cutsTo_len ts j k
            by_cases hlt2 : k + 1 < m
            · have g1 : (k : Int) + 1 < m := by omega
              have g0 : (0 : Int) ≤ (k : Int) + 1 := by omega
              have g2 : IntKind.i64.wrap ((k : Int) + 1 + 1) = k + 1 + 1 := i64_in (by omega) (by omega)
              have g3 : (k : Int) + 1 ≤ m := by omega
              have T4 := hid (T1.out.below (hK ▸ HB.out))
              have QF := hid (fun q s => rofZ_calls (T4.out.below (below_drewN (Below.refl _ _) q)) HM.out s)
              go_wp2_with fail
              go_quiet (exact Calls.quiet_of_same (QF.out _ _))
              obtain ⟨W5, hW5⟩ : ∃ W5, W4.drewN nq = W5 := ⟨_, rfl⟩
              have b5 : Below W4.heap.size W4 W5 := hW5 ▸ below_drewN (Below.refl _ _) nq
              have X5 := hid (HX.out.below b5 HX.out.lt)
              have x0 := X5.out.cell0
              have Q5 := hid (HQ.out.below b5)
              have B5 := hid (HB.out.trans (b5.mono (by have := HB.out.size; omega)))
              have T5 := hid (T4.out.below b5)
              rw [hW5]
              clear hW5 b5 HX HQ HB T4 QF
              have QF := hid (fun q s => rofZ_calls (T5.out.below (below_drewN (Below.refl _ _) q)) HM.out s)
              go_wp2_with fail
              go_quiet (exact Calls.quiet_of_same (QF.out _ _))
              obtain ⟨W6, hW6⟩ : ∃ W6, W5.drewN nq = W6 := ⟨_, rfl⟩
              have b6 : Below W5.heap.size W5 W6 := hW6 ▸ below_drewN (Below.refl _ _) nq
              have X6 := hid (X5.out.below b6 X5.out.lt)
              have x1 := X6.out.cell1
              have f1 := X6.out.fr 1
              have Q6 := hid (Q5.out.below b6)
              have B6 := hid (B5.out.trans (b6.mono (by have := B5.out.size; omega)))
              rw [hW6]
              clear hW6 b6 X5 Q5 B5 T5 QF x0
              have C1 := hid (ofZ_ways ts (s.extract 0 (k + 1)))
              have C2' := hid (ofZ_ways ts (s.extract (k + 1) m))
              obtain ⟨u1, hu1⟩ : ∃ u, Vc.ofZ ts (s.extract 0 (k + 1)) = u := ⟨_, rfl⟩
              obtain ⟨u2, hu2⟩ : ∃ u, Vc.ofZ ts (s.extract (k + 1) m) = u := ⟨_, rfl⟩
              rw [hu1] at C1
              rw [hu2] at C2'
              try rw [hu1]
              try rw [hu2]
              clear hu1 hu2
              have hstep : (∃ l r : Nat, u1 = l ∧ u2 = r ∧ Vc.cutAt ts j (k + 1) = [((l : Int), (r : Int), (j : Int), (j : Int))]) ∨ ((u1 = -1 ∨ (∃ l : Nat, u1 = l) ∧ u2 = -1) ∧ Vc.cutAt ts j (k + 1) = []) := by
                unfold Vc.cutAt
                rw [HSs.out, hsm]
                rcases C1.out with ⟨l, a1, a2, _⟩ | ⟨a1, a2⟩
                · rcases C2'.out with ⟨r, b1, b2, _⟩ | ⟨b1, b2⟩
                  · exact .inl ⟨l, r, a2, b2, by rw [a1, b1]; rfl⟩
                  · exact .inr ⟨.inr ⟨⟨l, a2⟩, b2⟩, by rw [a1, b1]; rfl⟩
                · exact .inr ⟨.inl a2, by rw [a1]; cases Vc.num ts (s.extract (k + 1) m) <;> rfl⟩
              clear C1 C2'
              rcases hstep with ⟨l, r, rfl, rfl, hcut⟩ | ⟨hf, hcut⟩
              · have HC := hid hcut
                have v1 : (0 : Int) ≤ l := by omega
                have v2 : (0 : Int) ≤ r := by omega
                have hlen : nm ≤ 300000 := by have := HP.out.length_eq; rw [List.length_append] at this; omega
                clear hcut
                go_wp2_with fail
                refine (rput_calls Q6.out HA.out.2 (by omega) (l : Int) (r : Int) (j : Int) (j : Int)).mono ?_
                rintro e w8 ⟨⟨a8, c8, out, rfl, hI, hq8, hi8, ha8⟩, b8⟩
                have HI := hid hI
                have Q8 := hid hq8
                have HH8 := hid hi8
                have HA8 := hid ha8
                have X8 := hid (X6.out.below b8 X6.out.lt)
                have B8 := hid (B6.out.trans (b8.mono (by have := B6.out.size; omega)))
                have hk6 := X6.out.lt
                clear hI hq8 hi8 ha8 b8 x1 f1 X6 Q6 B6
                have x0 := X8.out.cell0
                have x1 := X8.out.cell1
                have f1 := X8.out.fr 1
                have X9 := hid (X8.out.set1 (.slice a8 (nm + 1) c8))
                have Q9 := hid (Q8.out.mut (Mut.set w8 K 1 (.slice a8 (nm + 1) c8) (S := fun i => i = K) rfl) (HH8.out.mono (show K + 1 ≤ _ from hk6)) (fun i hi => by omega))
                have B9 := hid (B8.out.setCell (p := ⟨K, 1, none⟩) (Nat.le_refl _) (.slice a8 (nm + 1) c8))
                go_wp2_with fail
                go_roundg (m - (k + 1))
                case measure => omega
                case rel =>
                  refine ⟨k + 1, nm + 1, c8, a8, out, rfl, by go_num, by omega, by omega, hid ?_, hid (HI.out.up HU.out), Q9, hid ⟨HH8.out.mono (show K + 1 ≤ _ from hk6), HA8.out⟩, X9, B9⟩
                  rw [Vc.cutsTo, HC.out, ← List.append_assoc]
                  exact HI.out.perm.trans ((List.Perm.cons _ HP.out).trans (List.perm_append_singleton _ _).symm)
              · have HC := hid hcut
                clear hcut
                have e1 : Vc.cutsL ts j ++ Vc.cutsTo ts j (k + 1) = Vc.cutsL ts j ++ Vc.cutsTo ts j k := by rw [Vc.cutsTo, HC.out, List.append_nil]
                have HE := hid e1
                clear e1
                rcases hf with rfl | ⟨⟨l, rfl⟩, rfl⟩
                · go_wp2_with fail
                  go_roundg (m - (k + 1))
                  case measure => omega
                  case rel => exact ⟨k + 1, nm, cm, am, ms, rfl, by go_num, by omega, by omega, hid (by rw [HE.out]; exact HP.out), HU, Q6, HA, X6, B6⟩
                · have v1 : (0 : Int) ≤ l := by omega
                  go_wp2_with fail
                  go_roundg (m - (k + 1))
                  case measure => omega
                  case rel => exact ⟨k + 1, nm, cm, am, ms, rfl, by go_num, by omega, by omega, hid (by rw [HE.out]; exact HP.out), HU, Q6, HA, X6, B6⟩
            · have g1 : ¬ (k : Int) + 1 < m := by omega
              have e1 : Vc.cutsL ts (j + 1) = Vc.cutsL ts j ++ Vc.cutsTo ts j k := by
                have e2 : m - 1 = k := by omega
                rw [Vc.cutsL, HSs.out, hsm, e2]
              have HE := hid e1
              clear e1
              go_wp2_with fail
              go_roundg (N - (j + 1))
              case measure => omega
              case rel => exact ⟨j + 1, nm, cm, am, ms, rfl, by go_num, by omega, hid (by rw [HE.out]; exact HP.out), HU, HQ, HA, HX, HB⟩
        · have hjn : j = N := by omega
          have l1 : ¬ (j : Int) < N := by omega
          have HC := hid (show Vc.CutsIs ts ms from ⟨by rw [HN.out, ← hjn]; exact HP.out, HU.out⟩)
          have T3 := hid (T1.out.below (hK ▸ HB.out))
          have S3 := hid (Q1.out.below (hK ▸ HB.out))
          have R3 := hid (R1.out.below HB.out (by omega))
          have B3 := hid (B1.out.trans (HB.out.mono (hK ▸ B1.out.size)))
          have V3 := hid (show Vo W3 (some ⟨b, 0, none⟩) N N am nm cm z1 zn zc ts ms sp' from ⟨T3.out, HQ.out, S3.out⟩)
          have x1 := HX.out.cell1
          have x2 := HX.out.cell2
          clear T3 S3 hjn
          go_wp2_with fail
          refine (rmay_calls V3.out (sp_small HS.out HZs.out)).mono ?_
          rintro e w8 ⟨⟨t, rfl, ht⟩, b8⟩
          have HMay := hid ht
          have R8 := hid (R3.out.below b8 R3.out.lt)
          have V8 := hid (V3.out.below b8)
          have X8 := hid (HX.out.below b8 HX.out.lt)
          have B8 := hid (B3.out.trans (b8.mono B3.out.size))
          clear ht b8 R3 V3 HX B3 x0 x1 x2
          cases t
          · have HF := hid (Vc.noFrom HT.out HC.out HS.out (fun h => absurd (HMay.out.2 h) (by decide)))
            obtain ⟨y1, y2, y3⟩ := ret_three R8.out (.slice none 0 0) (.slice none 0 0) (.slice none 0 0)
            have BB := hid (below_three B8.out (R := w.heap.size) (Nat.le_refl _) (.slice none 0 0) (.slice none 0 0) (.slice none 0 0))
            have p0 := R8.out.cell0
            have p1 := R8.out.cell1
            have p2 := R8.out.cell2
            have q0 := R8.out.fr 0
            have q1 := R8.out.fr 1
            have q2 := R8.out.fr 2
            have u1 := y1.cell1
            have v1 := y1.fr 1
            have u2 := y2.cell2
            have v2 := y2.fr 2
            have r0 := y3.cell0
            have r1 := y3.cell1
            have r2 := y3.cell2
            unfold three at r0 r1 r2
            clear y1 y2 y3
            go_wp2_with fail
            refine bodyPost_ret (v := .tuple #[.agg #[.slice none 0 0, .slice none 0 0, .slice none 0 0], .bool false]) (by simp [results, Try.results31, go_sem, r0, r1, r2]) rfl ?_
            exact ⟨.inr ⟨HF.out, rfl⟩, BB.out⟩
          · have HF := hid (show Vc.FromIs rs sp ts ms sp' from ⟨HR.out, HT.out, HC.out, HS.out, HMay.out.1 rfl⟩)
            have x0 := X8.out.cell0
            have x1 := X8.out.cell1
            have x2 := X8.out.cell2
            have V9 := hid (V8.out.mut (mut_three w8 w.heap.size (.slice (some ⟨b, 0, none⟩) N N) (.slice am nm cm) (.slice z1 zn zc) (S := fun i => i = w.heap.size) rfl) Hb.out (HA.out.1.mono (by omega)) HH.out (fun i hi => by omega))
            obtain ⟨y1, y2, y3⟩ := ret_three R8.out (.slice (some ⟨b, 0, none⟩) N N) (.slice am nm cm) (.slice z1 zn zc)
            have BB := hid (below_three B8.out (R := w.heap.size) (Nat.le_refl _) (.slice (some ⟨b, 0, none⟩) N N) (.slice am nm cm) (.slice z1 zn zc))
            have p0 := R8.out.cell0
            have p1 := R8.out.cell1
            have p2 := R8.out.cell2
            have q0 := R8.out.fr 0
            have q1 := R8.out.fr 1
            have q2 := R8.out.fr 2
            have u1 := y1.cell1
            have v1 := y1.fr 1
            have u2 := y2.cell2
            have v2 := y2.fr 2
            have r0 := y3.cell0
            have r1 := y3.cell1
            have r2 := y3.cell2
            unfold three at r0 r1 r2
            clear y1 y2 y3
            go_wp2_with fail
            refine bodyPost_ret (v := .tuple #[.agg #[.slice (some ⟨b, 0, none⟩) N N, .slice am nm cm, .slice z1 zn zc], .bool true]) (by simp [results, Try.results31, go_sem, r0, r1, r2]) rfl ?_
            exact ⟨.inl ⟨ts, ms, sp', _, _, _, am, nm, cm, z1, zn, zc, HF.out, rfl, V9.out⟩, BB.out⟩
  · have HF := hid (Vc.noFrom_ranks hno)
    clear hno
    have R2 := hid (R1.out.alloc (.cells #[.slice none 0 0, .slice none 0 0, .slice none 0 0] 26))
    have B2 := hid (B1.out.alloc B1.out.size (.cells #[.slice none 0 0, .slice none 0 0, .slice none 0 0] 26))
    obtain ⟨y1, y2, y3⟩ := ret_three R2.out (.slice none 0 0) (.slice none 0 0) (.slice none 0 0)
    have BB := hid (below_three B2.out (R := w.heap.size) (Nat.le_refl _) (.slice none 0 0) (.slice none 0 0) (.slice none 0 0))
    have p0 := R2.out.cell0
    have p1 := R2.out.cell1
    have p2 := R2.out.cell2
    have q0 := R2.out.fr 0
    have q1 := R2.out.fr 1
    have q2 := R2.out.fr 2
    have u1 := y1.cell1
    have v1 := y1.fr 1
    have u2 := y2.cell2
    have v2 := y2.fr 2
    have r0 := y3.cell0
    have r1 := y3.cell1
    have r2 := y3.cell2
    unfold three at r0 r1 r2
    clear y1 y2 y3
    go_wp2_with fail
    refine bodyPost_ret (v := .tuple #[.agg #[.slice none 0 0, .slice none 0 0, .slice none 0 0], .bool false]) (by simp [results, Try.results31, go_sem, r0, r1, r2]) rfl ?_
    exact ⟨.inr ⟨HF.out, rfl⟩, BB.out⟩
end Go.Proofs.Ytfgbpjajkmfkoaa
