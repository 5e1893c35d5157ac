/-
  Stage 12's law ScanPieces, walked.
-/
import Derived.Test.YtlomdihpdaealaaDoorScFx
import Derived.Test.YtlomdihpdaealaaDoorLotC
namespace Go.Proofs.YtlomdihpdaealaaDoor
open Go.RowKit
set_option linter.unusedVariables false
namespace Sc
theorem kds_iff {cl : Int → Int} {b b' : Prop} [Decidable b] [Decidable b'] (h : b ↔ b') : ∀ (i : Nat) (z : Int) (l : List Int), kds cl b i z l = kds cl b' i z l
  | _, _, [] => rfl
  | i, z, p :: l => by
    unfold kds
    rw [kds_iff h (i + 1) (cs cl p) l]
    congr 1
    by_cases e : cs cl p ≠ z ∧ ¬ (i = 1 ∧ b ∧ cs cl p ≠ 3)
    · rw [if_pos e, if_pos ⟨e.1, fun k => e.2 ⟨k.1, h.2 k.2.1, k.2.2⟩⟩]
    · rw [if_neg e, if_neg (fun k => e ⟨k.1, fun m => k.2 ⟨m.1, h.1 m.2.1, m.2.2⟩⟩)]
end Sc
/-- How many points of others than spaces, as the law counts them, from a place on. -/
def kdF (f : Nat → Int) (i : Nat) (z : Int) (l : List Int) : Nat := Sc.kds ucl (f 0 = 32) i z l
theorem drop_it {l : List Int} {i : Nat} (h : i < l.length) : l.drop i = Pr.it l i :: l.drop (i + 1) := by
  rw [List.drop_eq_getElem_cons h]
  have := Pr.it_get h
  rw [List.getElem?_eq_getElem h] at this
  rw [Option.some.inj this]
theorem nums_at {l : List Int} {i : Nat} (h : i < l.length) : Sc.nums ucl (l.drop i) = (if ucl (Pr.it l i) = 2 then 1 else 0) + Sc.nums ucl (l.drop (i + 1)) := by rw [drop_it h]; rfl
theorem kdF_at {f : Nat → Int} {l : List Int} {i : Nat} {z : Int} (h : i < l.length) : kdF f i z (l.drop i) = (if Sc.cs ucl (Pr.it l i) ≠ z ∧ ¬ (i = 1 ∧ f 0 = 32 ∧ Sc.cs ucl (Pr.it l i) ≠ 3) then 1 else 0) + kdF f (i + 1) (Sc.cs ucl (Pr.it l i)) (l.drop (i + 1)) := by rw [drop_it h]; rfl
theorem late_at {l : List Int} {i : Nat} {z : Int} (h : i < l.length) : Sc.late ucl z (l.drop i) ↔ (Sc.cs ucl (Pr.it l i) = 3 ∧ 0 ≤ z ∧ z ≠ 3) ∨ Sc.late ucl (Sc.cs ucl (Pr.it l i)) (l.drop (i + 1)) := by rw [drop_it h]; rfl
/-- What is so of a piece's points. -/
structure PcOk (kd : Nat) (f : Nat → Int) (N : Nat) (P : List Int) : Prop where
  blank : kd = 1 → ¬ Sc.late ucl (-1) P
  wide : kd = 3 → Sc.nums ucl P ≤ 3
  plain : kd = 2 → kdF f 0 (-1) P ≤ 1 ∨ (f 0 = 39 ∧ N ≤ 3)
theorem pc_ok (w : World) {kd : Nat} (hk : kd = 1 ∨ kd = 2 ∨ kd = 3) {f : Nat → Int} {n : Nat} (hn : 0 < n) (hz : ∀ i, 0 ≤ f i) : PcOk kd f (Sc.next ucl kd f n) (Utf.pts f (Sc.next ucl kd f n)) := by
  have hle := Sc.piece_le (cl := ucl) (kind := kd) (Utf.pts f n)
  have ht : Utf.pts f (Sc.next ucl kd f n) = (Utf.pts f n).take (Sc.piece ucl kd (Utf.pts f n)).1 := Sc.take_is _ n f hle
  rw [ht]
  refine ⟨fun h => ?_, fun h => ?_, fun h => ?_⟩
  · subst h; rw [Sc.piece_1]; exact Sc.word_late _
  · subst h; rw [Sc.piece_3]; exact Sc.wide_nums (uUs w) _
  · subst h
    rw [Sc.piece_2]
    have h32 := Sc.head_is (f := f) (n := n) hn hz (x := 32) (by decide) (by decide)
    have h39 := Sc.head_is (f := f) (n := n) hn hz (x := 39) (by decide) (by decide)
    rcases Sc.plain_kds (uUs w) (Utf.pts f n) with h | ⟨h1, h2⟩
    · left
      unfold kdF
      rw [Sc.kds_iff h32.symm]
      exact h
    · right
      refine ⟨h39.1 (Sc.ending_ge h1).2, ?_⟩
      have e : Sc.next ucl 2 f n = ((Sc.lens f n).take (Sc.ending false (Utf.pts f n))).sum := by
        unfold Sc.next
        rw [Sc.piece_2, h2]
      rw [e, Sc.ones _ n f hz (by rw [← h2]; rw [Sc.piece_2] at hle; exact hle) (Sc.ending_low h1)]
      exact Sc.ending_le _ _
set_option maxRecDepth 100000 in
set_option maxHeartbeats 6400000 in
theorem scanPieces_calls {w : World} {ba : Option Addr} {bn bc : Nat} {f : Nat → Int} (kind : Int) (B : Sl w ba bn bc f) (hE : Ends w) :
    Calls Tryd.prog 8 #[.int .i64 kind, .slice ba bn bc] w fun e w' => e = .returned (.bool true) ∧ Below w.heap.size w w' := by
  have HBy := hid B
  have HE := hid hE
  have h2 := Nat.le_trans B.le B.mx
  unfold maxLen at h2
  clear B hE
  have HFix := hid (fun (w1 : World) (b : Below w.heap.size w w1) => (fixed12_calls (HE.out.below b (Nat.le_refl _))).mono (fun e w' h => (⟨h.1, b.trans (h.2.mono b.size)⟩ : e = .returned (.bool true) ∧ Below w.heap.size w w')))
  go_enter Tryd.func8, Tryd.ntmps8
  by_cases hbig : 200 < bn
  · have k1 : (200 : Int) < bn := by omega
    go_wp2_with fail
    refine (HFix.out _ (Below.refl _ _)).mono ?_
    rintro e w1 ⟨rfl, b1⟩
    have HB1 := hid b1
    clear b1
    go_wp2_with fail
    go_ret
    exact ⟨rfl, HB1.out⟩
  have k1 : ¬ (200 : Int) < bn := by omega
  by_cases hk0 : kind < 1
  · go_wp2_with fail
    refine (HFix.out _ (Below.refl _ _)).mono ?_
    rintro e w1 ⟨rfl, b1⟩
    have HB1 := hid b1
    clear b1
    go_wp2_with fail
    go_ret
    exact ⟨rfl, HB1.out⟩
  by_cases hk3 : 3 < kind
  · go_wp2_with fail
    refine (HFix.out _ (Below.refl _ _)).mono ?_
    rintro e w1 ⟨rfl, b1⟩
    have HB1 := hid b1
    clear b1
    go_wp2_with fail
    go_ret
    exact ⟨rfl, HB1.out⟩
  obtain ⟨kd, rfl, hkd⟩ : ∃ k : Nat, kind = k ∧ (k = 1 ∨ k = 2 ∨ k = 3) := ⟨kind.toNat, by omega, by omega⟩
  have HKd := hid hkd
  have hs : bn ≤ 200 := by omega
  clear hbig hkd
  go_wp2_with fail
  go_loopg [5] bn (fun r rv wr => ∃ (pos : Nat) (a : Option Addr) (c : Nat), r = bn - pos ∧ rv = .slice a (bn - pos) c ∧ pos ≤ bn ∧ Hid (Sl wr a (bn - pos) c (Utf.sh f pos)) ∧ Hid (Below w.heap.size w wr))
  case atStart => exact ⟨0, ba, bc, rfl, rfl, Nat.zero_le _, by rw [Utf.sh_zero]; exact HBy, hid (Below.refl _ _)⟩
  case round =>
    obtain ⟨pos, a, cc, rfl, rfl, hp, HS, HB⟩ := hrel
    by_cases hlt : pos < bn
    · obtain ⟨m, hm⟩ : ∃ m, bn - pos = m := ⟨_, rfl⟩
      have HMm := hid hm
      rw [hm] at HS ⊢
      have k2 : (0 : Int) < m := by omega
      have hm0 : 0 < m := by omega
      have hm2 : m ≤ 200 := by omega
      obtain ⟨g, hg⟩ : ∃ g, Utf.sh f pos = g := ⟨_, rfl⟩
      have HGg := hid hg
      rw [hg] at HS
      have HNX := hid (unx_fin (kind := kd) HKd.out (f := g) (n := m) hm0)
      have HPC := hid (pc_ok w (kd := kd) HKd.out (f := g) (n := m) hm0 (fun i => (HS.out.bd i).1))
      have hN1 := Sc.next_pos (cl := ucl) (kind := kd) (urg w) (f := g) (n := m) hm0
      have hN2 := Sc.next_le (cl := ucl) (kind := kd) g m
      obtain ⟨N, hN⟩ : ∃ N, Sc.next ucl kd g m = N := ⟨_, rfl⟩
      rw [hN] at HNX HPC hN1 hN2
      have HLT := hid hlt
      clear hlt hm hN hg
      go_wp2_with fail
      refine (usual12_calls _).mono ?_
      rintro e w1 ⟨rfl, rfl⟩
      have bu := (Below.refl wr.heap.size wr).alloc (Nat.le_refl _) (.cells uCells 58)
      have R1 := hid (uRs wr 58 wr.heap.size rfl)
      have HB1 := hid (HB.out.trans (bu.mono HB.out.size))
      have HS1 := hid (HS.out.below bu)
      obtain ⟨W1, hW1⟩ : ∃ W, wr.alloc (.cells uCells 58) = W := ⟨_, rfl⟩
      obtain ⟨T0, hT0⟩ : ∃ T, wr.heap.size = T := ⟨_, rfl⟩
      rw [hW1] at R1 HB1 HS1 ⊢
      rw [hT0] at R1 ⊢
      clear bu hW1 hT0 HB HS
      have HE1 := hid (HE.out.below HB1.out (Nat.le_refl _))
      go_wp2_with fail
      refine (next_calls (kd : Int) R1.out HS1.out (by omega) HE1.out true).mono ?_
      rintro e w2 ⟨rfl, b2⟩
      rw [HNX.out]
      unfold NX
      have HB2 := hid (HB1.out.trans (b2.mono HB1.out.size))
      have HS2 := hid (HS1.out.below b2)
      clear b2 R1 HB1 HS1 HE1
      have j1 : ¬ (N : Int) < 1 := by omega
      have j2 : ¬ (m : Int) < N := by omega
      have j3 : (N : Int) ≤ m := by omega
      have j4 : (0 : Int) ≤ N := by omega
      have hle := HS2.out.le
      have hmx := HS2.out.mx
      unfold maxLen at hmx
      have j5 : (N : Int) ≤ cc := by omega
      obtain ⟨b, off, rfl, hbl, hcc⟩ := HS2.out.at' (by omega)
      clear hcc hbl
      have SN := HS2.out.first N hN2
      have hcv := run_convert_sl (P := Tryd.prog) w2 23 5 9 Tryd.underlying23 Tryd.underlying5 Tryd.underlying9 SN
      have HSt := hid (St.of SN.bd N)
      clear SN
      go_wp2_with fail
      refine (refPoints_calls _ N g _ HSt.out (by omega)).mono ?_
      rintro e w3 ⟨v3, rfl, o3, b3⟩
      obtain ⟨a3, c3, rfl, I3⟩ := Ir.ofOwn (show w3.ownsRow w2.heap.size 3 1 v3 (Utf.pts g N).length (iv (Utf.pts g N)) from o3)
      have HB3 := hid (HB2.out.trans (b3.mono HB2.out.size))
      have HS3 := hid (HS2.out.below b3)
      have hpl := Utf.pts_len N N g (Nat.le_refl _)
      obtain ⟨P, hP⟩ : ∃ P, Utf.pts g N = P := ⟨_, rfl⟩
      rw [hP] at I3 HPC hpl ⊢
      have HI3 := hid I3
      clear o3 b3 I3 hP hcv HB2 HS2
      have HT1 := hid (show 0 + Sc.nums ucl (P.drop 0) = Sc.nums ucl P from by rw [List.drop_zero, Nat.zero_add])
      have HT2 := hid (show 0 + kdF g 0 (-1) (P.drop 0) = kdF g 0 (-1) P from by rw [List.drop_zero, Nat.zero_add])
      have HT3 := hid (show kd = 1 → ¬ Sc.late ucl (-1) (P.drop 0) from by rw [List.drop_zero]; exact HPC.out.blank)
      obtain ⟨T1, hT1⟩ : ∃ T, Sc.nums ucl P = T := ⟨_, rfl⟩
      obtain ⟨T2, hT2⟩ : ∃ T, kdF g 0 (-1) P = T := ⟨_, rfl⟩
      have HQ1 := hid hT1
      have HQ2 := hid hT2
      rw [hT1] at HT1
      rw [hT2] at HT2
      clear hT1 hT2
      go_wp2_with fail
      go_loopg [8, 9, 10, 51] P.length (fun r nv kv zv iv wq => ∃ (i nb kb : Nat) (z : Int), r = P.length - i ∧ nv = .int .i64 (nb : Int) ∧ kv = .int .i64 (kb : Int) ∧ zv = .int .i64 z ∧ iv = .int .i64 (i : Int) ∧ i ≤ P.length ∧ nb ≤ i ∧ kb ≤ i ∧ Hid (nb + Sc.nums ucl (P.drop i) = T1) ∧ Hid (kb + kdF g i z (P.drop i) = T2) ∧ Hid (kd = 1 → ¬ Sc.late ucl z (P.drop i)) ∧ Hid (Below w.heap.size w wq) ∧ Hid (Sl wq (some ⟨b, off, none⟩) m cc g) ∧ Hid (Ir wq a3 P.length c3 P))
      case atStart => exact ⟨0, 0, 0, -1, rfl, rfl, rfl, rfl, rfl, Nat.zero_le _, Nat.le_refl _, Nat.le_refl _, HT1, HT2, HT3, HB3, HS3, HI3⟩
      case round =>
        obtain ⟨i, nb, kb, z, rfl, rfl, rfl, rfl, rfl, hi, hnb, hkbb, HS1, HS2, HS3, HWB, HWS, HWP⟩ := hrel
        by_cases hil : i < P.length
        · have k3 : (i : Int) < P.length := by omega
          have i0 : (0 : Int) ≤ i := by omega
          have e1 : IntKind.i64.wrap ((i : Int) + 1) = i + 1 := i64_in (by omega) (by omega)
          have e2 : IntKind.i64.wrap ((nb : Int) + 1) = nb + 1 := i64_in (by omega) (by omega)
          have e3 : IntKind.i64.wrap ((kb : Int) + 1) = kb + 1 := i64_in (by omega) (by omega)
          have HA := hid (nums_at (l := P) hil)
          have HB2 := hid (kdF_at (f := g) (l := P) (z := z) hil)
          have HC2 := hid (late_at (l := P) (z := z) hil)
          obtain ⟨bp, op, rfl, hbp, hcp⟩ := HWP.out.at' (by omega)
          have p0 := hcp i hil
          obtain ⟨p, hp0⟩ : ∃ p, Pr.it P i = p := ⟨_, rfl⟩
          rw [hp0] at p0 HA HB2 HC2
          obtain ⟨y, hy⟩ : ∃ y, ucl p = y := ⟨_, rfl⟩
          have HYy := hid hy
          have HC0 := hid (show (if y = 4 then (3 : Int) else y) = Sc.cs ucl p by unfold Sc.cs; rw [hy])
          rw [hy] at HA
          obtain ⟨c, hc⟩ : ∃ c, Sc.cs ucl p = c := ⟨_, rfl⟩
          rw [hc] at HB2 HC2 HC0
          clear hcp hp0 hy hc hbp
          go_wp2_with fail
          refine (usual12_calls _).mono ?_
          rintro e w5 ⟨rfl, rfl⟩
          have bu := (Below.refl wr.heap.size wr).alloc (Nat.le_refl _) (.cells uCells 58)
          have R5 := hid (uRs wr 58 wr.heap.size rfl)
          have HWB := hid (HWB.out.trans (bu.mono HWB.out.size))
          have HWS := hid (HWS.out.below bu)
          have HWP := hid (HWP.out.below bu)
          obtain ⟨W5, hW5⟩ : ∃ W, wr.alloc (.cells uCells 58) = W := ⟨_, rfl⟩
          obtain ⟨T5, hT5⟩ : ∃ T, wr.heap.size = T := ⟨_, rfl⟩
          rw [hW5] at R5 HWB HWS HWP ⊢
          rw [hT5] at R5 ⊢
          clear bu hW5 hT5 p0
          go_wp2_with fail
          refine (rof_calls _ _ _ _ _ _ p _ R5.out).mono ?_
          rintro e W5 ⟨rfl, rfl⟩
          rw [show Cl.cls UL UH UC p 0 51 = y from by rw [← HYy.out]; unfold ucl Cl.of; rw [uMay]; rfl]
          clear R5
          obtain ⟨b', off', eb, hb', hcb⟩ := HWS.out.at' hm0
          cases eb
          have g0 := hcb 0 hm0
          rw [Nat.add_zero] at g0
          obtain ⟨gz, hgz⟩ : ∃ gz, g 0 = gz := ⟨_, rfl⟩
          have HGz := hid hgz
          rw [hgz] at g0
          clear hcb hgz hb'
          by_cases hkb : kd = 1
          · have tk : ((kd : Int) == 1) = true := by rw [hkb]; rfl
            have HKB := hid hkb
            clear hkb
            by_cases hy4 : y = 4
            · have hcv : c = 3 := by rw [← HC0.out, if_pos hy4]
              have hy2 : ¬ y = 2 := by omega
              subst hy4
              by_cases hcz : c = z
              · have hinc : ¬ (c ≠ z ∧ ¬ (i = 1 ∧ g 0 = 32 ∧ c ≠ 3)) := fun e => e.1 hcz
                have tz : ((3 : Int) != z) = false := by rw [← hcz, hcv]; simp
                have z0 : (0 : Int) ≤ z := by rw [← hcz, hcv]; decide
                have z3 : (z != 3) = false := by rw [← hcz, hcv]; decide
                clear hcz
                have HNb := hid (show nb + Sc.nums ucl (P.drop (i + 1)) = T1 from by have h1 := HS1.out; have h2 := HA.out; rw [if_neg hy2] at h2; omega)
                have HKb := hid (show kb + kdF g (i + 1) 3 (P.drop (i + 1)) = T2 from by have h1 := HS2.out; have h2 := HB2.out; rw [if_neg hinc, hcv] at h2; omega)
                have HLt := hid (show kd = 1 → ¬ Sc.late ucl 3 (P.drop (i + 1)) from fun h hl => HS3.out h (HC2.out.2 (.inr (by rw [hcv]; exact hl))))
                clear HA HB2 HC2 HS1 HS2 HS3
                clear hy2 hinc
                go_wp2_with fail
                go_roundg (P.length - (i + 1))
                case measure => omega
                case rel => exact ⟨i + 1, nb, kb, 3, rfl, rfl, rfl, rfl, by go_num, by omega, by omega, by omega, HNb, HKb, HLt, HWB, HWS, HWP⟩
              · have tz : ((3 : Int) != z) = true := by rw [← hcv]; simpa using hcz
                have z0 : ¬ (0 : Int) ≤ z := fun h => HS3.out HKB.out (HC2.out.2 (.inl ⟨hcv, h, fun e => hcz (by rw [hcv, e])⟩))
                by_cases hi1 : i = 1
                · have ti : ((i : Int) == 1) = true := by rw [hi1]; rfl
                  by_cases hg : g 0 = 32
                  · have tg : (gz == 32) = true := by rw [← HGz.out, hg]; rfl
                    have hinc : c ≠ z ∧ ¬ (i = 1 ∧ g 0 = 32 ∧ c ≠ 3) := ⟨hcz, fun e => e.2.2 hcv⟩
                    clear hcz hi1 hg
                    have HNb := hid (show nb + Sc.nums ucl (P.drop (i + 1)) = T1 from by have h1 := HS1.out; have h2 := HA.out; rw [if_neg hy2] at h2; omega)
                    have HKb := hid (show kb + 1 + kdF g (i + 1) 3 (P.drop (i + 1)) = T2 from by have h1 := HS2.out; have h2 := HB2.out; rw [if_pos hinc, hcv] at h2; omega)
                    have HLt := hid (show kd = 1 → ¬ Sc.late ucl 3 (P.drop (i + 1)) from fun h hl => HS3.out h (HC2.out.2 (.inr (by rw [hcv]; exact hl))))
                    clear HA HB2 HC2 HS1 HS2 HS3
                    clear hy2 hinc
                    go_wp2_with fail
                    go_roundg (P.length - (i + 1))
                    case measure => omega
                    case rel => exact ⟨i + 1, nb, kb + 1, 3, rfl, rfl, by go_num, rfl, by go_num, by omega, by omega, by omega, HNb, HKb, HLt, HWB, HWS, HWP⟩
                  · have tg : (gz == 32) = false := by rw [← HGz.out]; simpa using hg
                    have hinc : c ≠ z ∧ ¬ (i = 1 ∧ g 0 = 32 ∧ c ≠ 3) := ⟨hcz, fun e => hg e.2.1⟩
                    clear hcz hi1 hg
                    have HNb := hid (show nb + Sc.nums ucl (P.drop (i + 1)) = T1 from by have h1 := HS1.out; have h2 := HA.out; rw [if_neg hy2] at h2; omega)
                    have HKb := hid (show kb + 1 + kdF g (i + 1) 3 (P.drop (i + 1)) = T2 from by have h1 := HS2.out; have h2 := HB2.out; rw [if_pos hinc, hcv] at h2; omega)
                    have HLt := hid (show kd = 1 → ¬ Sc.late ucl 3 (P.drop (i + 1)) from fun h hl => HS3.out h (HC2.out.2 (.inr (by rw [hcv]; exact hl))))
                    clear HA HB2 HC2 HS1 HS2 HS3
                    clear hy2 hinc
                    go_wp2_with fail
                    go_roundg (P.length - (i + 1))
                    case measure => omega
                    case rel => exact ⟨i + 1, nb, kb + 1, 3, rfl, rfl, by go_num, rfl, by go_num, by omega, by omega, by omega, HNb, HKb, HLt, HWB, HWS, HWP⟩
                · have ti : ((i : Int) == 1) = false := by rw [beq_eq_false_iff_ne]; omega
                  have hinc : c ≠ z ∧ ¬ (i = 1 ∧ g 0 = 32 ∧ c ≠ 3) := ⟨hcz, fun e => hi1 e.1⟩
                  clear hcz hi1
                  have HNb := hid (show nb + Sc.nums ucl (P.drop (i + 1)) = T1 from by have h1 := HS1.out; have h2 := HA.out; rw [if_neg hy2] at h2; omega)
                  have HKb := hid (show kb + 1 + kdF g (i + 1) 3 (P.drop (i + 1)) = T2 from by have h1 := HS2.out; have h2 := HB2.out; rw [if_pos hinc, hcv] at h2; omega)
                  have HLt := hid (show kd = 1 → ¬ Sc.late ucl 3 (P.drop (i + 1)) from fun h hl => HS3.out h (HC2.out.2 (.inr (by rw [hcv]; exact hl))))
                  clear HA HB2 HC2 HS1 HS2 HS3
                  clear hy2 hinc
                  go_wp2_with fail
                  go_roundg (P.length - (i + 1))
                  case measure => omega
                  case rel => exact ⟨i + 1, nb, kb + 1, 3, rfl, rfl, by go_num, rfl, by go_num, by omega, by omega, by omega, HNb, HKb, HLt, HWB, HWS, HWP⟩
            · have hcy : c = y := by rw [← HC0.out, if_neg hy4]
              have t4 : (y == 4) = false := by simpa using hy4
              by_cases hy3 : y = 3
              · have hcv : c = 3 := by omega
                have hy2 : ¬ y = 2 := by omega
                subst hy3
                clear hy4 t4
                by_cases hcz : c = z
                · have hinc : ¬ (c ≠ z ∧ ¬ (i = 1 ∧ g 0 = 32 ∧ c ≠ 3)) := fun e => e.1 hcz
                  have tz : ((3 : Int) != z) = false := by rw [← hcz, hcv]; simp
                  have z0 : (0 : Int) ≤ z := by rw [← hcz, hcv]; decide
                  have z3 : (z != 3) = false := by rw [← hcz, hcv]; decide
                  clear hcz
                  have HNb := hid (show nb + Sc.nums ucl (P.drop (i + 1)) = T1 from by have h1 := HS1.out; have h2 := HA.out; rw [if_neg hy2] at h2; omega)
                  have HKb := hid (show kb + kdF g (i + 1) 3 (P.drop (i + 1)) = T2 from by have h1 := HS2.out; have h2 := HB2.out; rw [if_neg hinc, hcv] at h2; omega)
                  have HLt := hid (show kd = 1 → ¬ Sc.late ucl 3 (P.drop (i + 1)) from fun h hl => HS3.out h (HC2.out.2 (.inr (by rw [hcv]; exact hl))))
                  clear HA HB2 HC2 HS1 HS2 HS3
                  clear hy2 hinc
                  go_wp2_with fail
                  go_roundg (P.length - (i + 1))
                  case measure => omega
                  case rel => exact ⟨i + 1, nb, kb, 3, rfl, rfl, rfl, rfl, by go_num, by omega, by omega, by omega, HNb, HKb, HLt, HWB, HWS, HWP⟩
                · have tz : ((3 : Int) != z) = true := by rw [← hcv]; simpa using hcz
                  have z0 : ¬ (0 : Int) ≤ z := fun h => HS3.out HKB.out (HC2.out.2 (.inl ⟨hcv, h, fun e => hcz (by rw [hcv, e])⟩))
                  by_cases hi1 : i = 1
                  · have ti : ((i : Int) == 1) = true := by rw [hi1]; rfl
                    by_cases hg : g 0 = 32
                    · have tg : (gz == 32) = true := by rw [← HGz.out, hg]; rfl
                      have hinc : c ≠ z ∧ ¬ (i = 1 ∧ g 0 = 32 ∧ c ≠ 3) := ⟨hcz, fun e => e.2.2 hcv⟩
                      clear hcz hi1 hg
                      have HNb := hid (show nb + Sc.nums ucl (P.drop (i + 1)) = T1 from by have h1 := HS1.out; have h2 := HA.out; rw [if_neg hy2] at h2; omega)
                      have HKb := hid (show kb + 1 + kdF g (i + 1) 3 (P.drop (i + 1)) = T2 from by have h1 := HS2.out; have h2 := HB2.out; rw [if_pos hinc, hcv] at h2; omega)
                      have HLt := hid (show kd = 1 → ¬ Sc.late ucl 3 (P.drop (i + 1)) from fun h hl => HS3.out h (HC2.out.2 (.inr (by rw [hcv]; exact hl))))
                      clear HA HB2 HC2 HS1 HS2 HS3
                      clear hy2 hinc
                      go_wp2_with fail
                      go_roundg (P.length - (i + 1))
                      case measure => omega
                      case rel => exact ⟨i + 1, nb, kb + 1, 3, rfl, rfl, by go_num, rfl, by go_num, by omega, by omega, by omega, HNb, HKb, HLt, HWB, HWS, HWP⟩
                    · have tg : (gz == 32) = false := by rw [← HGz.out]; simpa using hg
                      have hinc : c ≠ z ∧ ¬ (i = 1 ∧ g 0 = 32 ∧ c ≠ 3) := ⟨hcz, fun e => hg e.2.1⟩
                      clear hcz hi1 hg
                      have HNb := hid (show nb + Sc.nums ucl (P.drop (i + 1)) = T1 from by have h1 := HS1.out; have h2 := HA.out; rw [if_neg hy2] at h2; omega)
                      have HKb := hid (show kb + 1 + kdF g (i + 1) 3 (P.drop (i + 1)) = T2 from by have h1 := HS2.out; have h2 := HB2.out; rw [if_pos hinc, hcv] at h2; omega)
                      have HLt := hid (show kd = 1 → ¬ Sc.late ucl 3 (P.drop (i + 1)) from fun h hl => HS3.out h (HC2.out.2 (.inr (by rw [hcv]; exact hl))))
                      clear HA HB2 HC2 HS1 HS2 HS3
                      clear hy2 hinc
                      go_wp2_with fail
                      go_roundg (P.length - (i + 1))
                      case measure => omega
                      case rel => exact ⟨i + 1, nb, kb + 1, 3, rfl, rfl, by go_num, rfl, by go_num, by omega, by omega, by omega, HNb, HKb, HLt, HWB, HWS, HWP⟩
                  · have ti : ((i : Int) == 1) = false := by rw [beq_eq_false_iff_ne]; omega
                    have hinc : c ≠ z ∧ ¬ (i = 1 ∧ g 0 = 32 ∧ c ≠ 3) := ⟨hcz, fun e => hi1 e.1⟩
                    clear hcz hi1
                    have HNb := hid (show nb + Sc.nums ucl (P.drop (i + 1)) = T1 from by have h1 := HS1.out; have h2 := HA.out; rw [if_neg hy2] at h2; omega)
                    have HKb := hid (show kb + 1 + kdF g (i + 1) 3 (P.drop (i + 1)) = T2 from by have h1 := HS2.out; have h2 := HB2.out; rw [if_pos hinc, hcv] at h2; omega)
                    have HLt := hid (show kd = 1 → ¬ Sc.late ucl 3 (P.drop (i + 1)) from fun h hl => HS3.out h (HC2.out.2 (.inr (by rw [hcv]; exact hl))))
                    clear HA HB2 HC2 HS1 HS2 HS3
                    clear hy2 hinc
                    go_wp2_with fail
                    go_roundg (P.length - (i + 1))
                    case measure => omega
                    case rel => exact ⟨i + 1, nb, kb + 1, 3, rfl, rfl, by go_num, rfl, by go_num, by omega, by omega, by omega, HNb, HKb, HLt, HWB, HWS, HWP⟩
              · by_cases hy2 : y = 2
                · have hcv : c = 2 := by omega
                  have hc3 : c ≠ 3 := by omega
                  subst hy2
                  clear hy4 t4 hy3
                  by_cases hcz : c = z
                  · have hinc : ¬ (c ≠ z ∧ ¬ (i = 1 ∧ g 0 = 32 ∧ c ≠ 3)) := fun e => e.1 hcz
                    have tz : ((2 : Int) != z) = false := by rw [← hcz, hcv]; simp
                    clear hcz
                    have HNb := hid (show nb + 1 + Sc.nums ucl (P.drop (i + 1)) = T1 from by have h1 := HS1.out; have h2 := HA.out; rw [if_pos rfl] at h2; omega)
                    have HKb := hid (show kb + kdF g (i + 1) 2 (P.drop (i + 1)) = T2 from by have h1 := HS2.out; have h2 := HB2.out; rw [if_neg hinc, hcv] at h2; omega)
                    have HLt := hid (show kd = 1 → ¬ Sc.late ucl 2 (P.drop (i + 1)) from fun h hl => HS3.out h (HC2.out.2 (.inr (by rw [hcv]; exact hl))))
                    clear HA HB2 HC2 HS1 HS2 HS3
                    clear hinc
                    go_wp2_with fail
                    go_roundg (P.length - (i + 1))
                    case measure => omega
                    case rel => exact ⟨i + 1, nb + 1, kb, 2, rfl, by go_num, rfl, rfl, by go_num, by omega, by omega, by omega, HNb, HKb, HLt, HWB, HWS, HWP⟩
                  · have tz : ((2 : Int) != z) = true := by rw [← hcv]; simpa using hcz
                    by_cases hi1 : i = 1
                    · have ti : ((i : Int) == 1) = true := by rw [hi1]; rfl
                      by_cases hg : g 0 = 32
                      · have tg : (gz == 32) = true := by rw [← HGz.out, hg]; rfl
                        have hinc : ¬ (c ≠ z ∧ ¬ (i = 1 ∧ g 0 = 32 ∧ c ≠ 3)) := fun e => e.2 ⟨hi1, hg, hc3⟩
                        clear hcz hi1 hg
                        have HNb := hid (show nb + 1 + Sc.nums ucl (P.drop (i + 1)) = T1 from by have h1 := HS1.out; have h2 := HA.out; rw [if_pos rfl] at h2; omega)
                        have HKb := hid (show kb + kdF g (i + 1) 2 (P.drop (i + 1)) = T2 from by have h1 := HS2.out; have h2 := HB2.out; rw [if_neg hinc, hcv] at h2; omega)
                        have HLt := hid (show kd = 1 → ¬ Sc.late ucl 2 (P.drop (i + 1)) from fun h hl => HS3.out h (HC2.out.2 (.inr (by rw [hcv]; exact hl))))
                        clear HA HB2 HC2 HS1 HS2 HS3
                        clear hinc
                        go_wp2_with fail
                        go_roundg (P.length - (i + 1))
                        case measure => omega
                        case rel => exact ⟨i + 1, nb + 1, kb, 2, rfl, by go_num, rfl, rfl, by go_num, by omega, by omega, by omega, HNb, HKb, HLt, HWB, HWS, HWP⟩
                      · have tg : (gz == 32) = false := by rw [← HGz.out]; simpa using hg
                        have hinc : c ≠ z ∧ ¬ (i = 1 ∧ g 0 = 32 ∧ c ≠ 3) := ⟨hcz, fun e => hg e.2.1⟩
                        clear hcz hi1 hg
                        have HNb := hid (show nb + 1 + Sc.nums ucl (P.drop (i + 1)) = T1 from by have h1 := HS1.out; have h2 := HA.out; rw [if_pos rfl] at h2; omega)
                        have HKb := hid (show kb + 1 + kdF g (i + 1) 2 (P.drop (i + 1)) = T2 from by have h1 := HS2.out; have h2 := HB2.out; rw [if_pos hinc, hcv] at h2; omega)
                        have HLt := hid (show kd = 1 → ¬ Sc.late ucl 2 (P.drop (i + 1)) from fun h hl => HS3.out h (HC2.out.2 (.inr (by rw [hcv]; exact hl))))
                        clear HA HB2 HC2 HS1 HS2 HS3
                        clear hinc
                        go_wp2_with fail
                        go_roundg (P.length - (i + 1))
                        case measure => omega
                        case rel => exact ⟨i + 1, nb + 1, kb + 1, 2, rfl, by go_num, by go_num, rfl, by go_num, by omega, by omega, by omega, HNb, HKb, HLt, HWB, HWS, HWP⟩
                    · have ti : ((i : Int) == 1) = false := by rw [beq_eq_false_iff_ne]; omega
                      have hinc : c ≠ z ∧ ¬ (i = 1 ∧ g 0 = 32 ∧ c ≠ 3) := ⟨hcz, fun e => hi1 e.1⟩
                      clear hcz hi1
                      have HNb := hid (show nb + 1 + Sc.nums ucl (P.drop (i + 1)) = T1 from by have h1 := HS1.out; have h2 := HA.out; rw [if_pos rfl] at h2; omega)
                      have HKb := hid (show kb + 1 + kdF g (i + 1) 2 (P.drop (i + 1)) = T2 from by have h1 := HS2.out; have h2 := HB2.out; rw [if_pos hinc, hcv] at h2; omega)
                      have HLt := hid (show kd = 1 → ¬ Sc.late ucl 2 (P.drop (i + 1)) from fun h hl => HS3.out h (HC2.out.2 (.inr (by rw [hcv]; exact hl))))
                      clear HA HB2 HC2 HS1 HS2 HS3
                      clear hinc
                      go_wp2_with fail
                      go_roundg (P.length - (i + 1))
                      case measure => omega
                      case rel => exact ⟨i + 1, nb + 1, kb + 1, 2, rfl, by go_num, by go_num, rfl, by go_num, by omega, by omega, by omega, HNb, HKb, HLt, HWB, HWS, HWP⟩
                · have HCy := hid hcy
                  have hc3 : c ≠ 3 := by omega
                  have t3 : (y == 3) = false := by simpa using hy3
                  have t2 : (y == 2) = false := by simpa using hy2
                  have t3n : (y != 3) = true := by simpa using hy3
                  clear hcy hy4 hy3
                  by_cases hcz : c = z
                  · have hinc : ¬ (c ≠ z ∧ ¬ (i = 1 ∧ g 0 = 32 ∧ c ≠ 3)) := fun e => e.1 hcz
                    have tz : (y != z) = false := by rw [← HCy.out, hcz]; simp
                    clear hcz
                    have HNb := hid (show nb + Sc.nums ucl (P.drop (i + 1)) = T1 from by have h1 := HS1.out; have h2 := HA.out; rw [if_neg hy2] at h2; omega)
                    have HKb := hid (show kb + kdF g (i + 1) y (P.drop (i + 1)) = T2 from by have h1 := HS2.out; have h2 := HB2.out; rw [if_neg hinc, HCy.out] at h2; omega)
                    have HLt := hid (show kd = 1 → ¬ Sc.late ucl y (P.drop (i + 1)) from fun h hl => HS3.out h (HC2.out.2 (.inr (by rw [HCy.out]; exact hl))))
                    clear HA HB2 HC2 HS1 HS2 HS3
                    clear hy2 hinc
                    go_wp2_with fail
                    go_roundg (P.length - (i + 1))
                    case measure => omega
                    case rel => exact ⟨i + 1, nb, kb, y, rfl, rfl, rfl, rfl, by go_num, by omega, by omega, by omega, HNb, HKb, HLt, HWB, HWS, HWP⟩
                  · have tz : (y != z) = true := by rw [← HCy.out]; simpa using hcz
                    by_cases hi1 : i = 1
                    · have ti : ((i : Int) == 1) = true := by rw [hi1]; rfl
                      by_cases hg : g 0 = 32
                      · have tg : (gz == 32) = true := by rw [← HGz.out, hg]; rfl
                        have hinc : ¬ (c ≠ z ∧ ¬ (i = 1 ∧ g 0 = 32 ∧ c ≠ 3)) := fun e => e.2 ⟨hi1, hg, hc3⟩
                        clear hcz hi1 hg
                        have HNb := hid (show nb + Sc.nums ucl (P.drop (i + 1)) = T1 from by have h1 := HS1.out; have h2 := HA.out; rw [if_neg hy2] at h2; omega)
                        have HKb := hid (show kb + kdF g (i + 1) y (P.drop (i + 1)) = T2 from by have h1 := HS2.out; have h2 := HB2.out; rw [if_neg hinc, HCy.out] at h2; omega)
                        have HLt := hid (show kd = 1 → ¬ Sc.late ucl y (P.drop (i + 1)) from fun h hl => HS3.out h (HC2.out.2 (.inr (by rw [HCy.out]; exact hl))))
                        clear HA HB2 HC2 HS1 HS2 HS3
                        clear hy2 hinc
                        go_wp2_with fail
                        go_roundg (P.length - (i + 1))
                        case measure => omega
                        case rel => exact ⟨i + 1, nb, kb, y, rfl, rfl, rfl, rfl, by go_num, by omega, by omega, by omega, HNb, HKb, HLt, HWB, HWS, HWP⟩
                      · have tg : (gz == 32) = false := by rw [← HGz.out]; simpa using hg
                        have hinc : c ≠ z ∧ ¬ (i = 1 ∧ g 0 = 32 ∧ c ≠ 3) := ⟨hcz, fun e => hg e.2.1⟩
                        clear hcz hi1 hg
                        have HNb := hid (show nb + Sc.nums ucl (P.drop (i + 1)) = T1 from by have h1 := HS1.out; have h2 := HA.out; rw [if_neg hy2] at h2; omega)
                        have HKb := hid (show kb + 1 + kdF g (i + 1) y (P.drop (i + 1)) = T2 from by have h1 := HS2.out; have h2 := HB2.out; rw [if_pos hinc, HCy.out] at h2; omega)
                        have HLt := hid (show kd = 1 → ¬ Sc.late ucl y (P.drop (i + 1)) from fun h hl => HS3.out h (HC2.out.2 (.inr (by rw [HCy.out]; exact hl))))
                        clear HA HB2 HC2 HS1 HS2 HS3
                        clear hy2 hinc
                        go_wp2_with fail
                        go_roundg (P.length - (i + 1))
                        case measure => omega
                        case rel => exact ⟨i + 1, nb, kb + 1, y, rfl, rfl, by go_num, rfl, by go_num, by omega, by omega, by omega, HNb, HKb, HLt, HWB, HWS, HWP⟩
                    · have ti : ((i : Int) == 1) = false := by rw [beq_eq_false_iff_ne]; omega
                      have hinc : c ≠ z ∧ ¬ (i = 1 ∧ g 0 = 32 ∧ c ≠ 3) := ⟨hcz, fun e => hi1 e.1⟩
                      clear hcz hi1
                      have HNb := hid (show nb + Sc.nums ucl (P.drop (i + 1)) = T1 from by have h1 := HS1.out; have h2 := HA.out; rw [if_neg hy2] at h2; omega)
                      have HKb := hid (show kb + 1 + kdF g (i + 1) y (P.drop (i + 1)) = T2 from by have h1 := HS2.out; have h2 := HB2.out; rw [if_pos hinc, HCy.out] at h2; omega)
                      have HLt := hid (show kd = 1 → ¬ Sc.late ucl y (P.drop (i + 1)) from fun h hl => HS3.out h (HC2.out.2 (.inr (by rw [HCy.out]; exact hl))))
                      clear HA HB2 HC2 HS1 HS2 HS3
                      clear hy2 hinc
                      go_wp2_with fail
                      go_roundg (P.length - (i + 1))
                      case measure => omega
                      case rel => exact ⟨i + 1, nb, kb + 1, y, rfl, rfl, by go_num, rfl, by go_num, by omega, by omega, by omega, HNb, HKb, HLt, HWB, HWS, HWP⟩
          · have tk : ((kd : Int) == 1) = false := by rw [beq_eq_false_iff_ne]; omega
            clear hkb
            by_cases hy4 : y = 4
            · have hcv : c = 3 := by rw [← HC0.out, if_pos hy4]
              have hy2 : ¬ y = 2 := by omega
              subst hy4
              by_cases hcz : c = z
              · have hinc : ¬ (c ≠ z ∧ ¬ (i = 1 ∧ g 0 = 32 ∧ c ≠ 3)) := fun e => e.1 hcz
                have tz : ((3 : Int) != z) = false := by rw [← hcz, hcv]; simp
                clear hcz
                have HNb := hid (show nb + Sc.nums ucl (P.drop (i + 1)) = T1 from by have h1 := HS1.out; have h2 := HA.out; rw [if_neg hy2] at h2; omega)
                have HKb := hid (show kb + kdF g (i + 1) 3 (P.drop (i + 1)) = T2 from by have h1 := HS2.out; have h2 := HB2.out; rw [if_neg hinc, hcv] at h2; omega)
                have HLt := hid (show kd = 1 → ¬ Sc.late ucl 3 (P.drop (i + 1)) from fun h hl => HS3.out h (HC2.out.2 (.inr (by rw [hcv]; exact hl))))
                clear HA HB2 HC2 HS1 HS2 HS3
                clear hy2 hinc
                go_wp2_with fail
                go_roundg (P.length - (i + 1))
                case measure => omega
                case rel => exact ⟨i + 1, nb, kb, 3, rfl, rfl, rfl, rfl, by go_num, by omega, by omega, by omega, HNb, HKb, HLt, HWB, HWS, HWP⟩
              · have tz : ((3 : Int) != z) = true := by rw [← hcv]; simpa using hcz
                by_cases hi1 : i = 1
                · have ti : ((i : Int) == 1) = true := by rw [hi1]; rfl
                  by_cases hg : g 0 = 32
                  · have tg : (gz == 32) = true := by rw [← HGz.out, hg]; rfl
                    have hinc : c ≠ z ∧ ¬ (i = 1 ∧ g 0 = 32 ∧ c ≠ 3) := ⟨hcz, fun e => e.2.2 hcv⟩
                    clear hcz hi1 hg
                    have HNb := hid (show nb + Sc.nums ucl (P.drop (i + 1)) = T1 from by have h1 := HS1.out; have h2 := HA.out; rw [if_neg hy2] at h2; omega)
                    have HKb := hid (show kb + 1 + kdF g (i + 1) 3 (P.drop (i + 1)) = T2 from by have h1 := HS2.out; have h2 := HB2.out; rw [if_pos hinc, hcv] at h2; omega)
                    have HLt := hid (show kd = 1 → ¬ Sc.late ucl 3 (P.drop (i + 1)) from fun h hl => HS3.out h (HC2.out.2 (.inr (by rw [hcv]; exact hl))))
                    clear HA HB2 HC2 HS1 HS2 HS3
                    clear hy2 hinc
                    go_wp2_with fail
                    go_roundg (P.length - (i + 1))
                    case measure => omega
                    case rel => exact ⟨i + 1, nb, kb + 1, 3, rfl, rfl, by go_num, rfl, by go_num, by omega, by omega, by omega, HNb, HKb, HLt, HWB, HWS, HWP⟩
                  · have tg : (gz == 32) = false := by rw [← HGz.out]; simpa using hg
                    have hinc : c ≠ z ∧ ¬ (i = 1 ∧ g 0 = 32 ∧ c ≠ 3) := ⟨hcz, fun e => hg e.2.1⟩
                    clear hcz hi1 hg
                    have HNb := hid (show nb + Sc.nums ucl (P.drop (i + 1)) = T1 from by have h1 := HS1.out; have h2 := HA.out; rw [if_neg hy2] at h2; omega)
                    have HKb := hid (show kb + 1 + kdF g (i + 1) 3 (P.drop (i + 1)) = T2 from by have h1 := HS2.out; have h2 := HB2.out; rw [if_pos hinc, hcv] at h2; omega)
                    have HLt := hid (show kd = 1 → ¬ Sc.late ucl 3 (P.drop (i + 1)) from fun h hl => HS3.out h (HC2.out.2 (.inr (by rw [hcv]; exact hl))))
                    clear HA HB2 HC2 HS1 HS2 HS3
                    clear hy2 hinc
                    go_wp2_with fail
                    go_roundg (P.length - (i + 1))
                    case measure => omega
                    case rel => exact ⟨i + 1, nb, kb + 1, 3, rfl, rfl, by go_num, rfl, by go_num, by omega, by omega, by omega, HNb, HKb, HLt, HWB, HWS, HWP⟩
                · have ti : ((i : Int) == 1) = false := by rw [beq_eq_false_iff_ne]; omega
                  have hinc : c ≠ z ∧ ¬ (i = 1 ∧ g 0 = 32 ∧ c ≠ 3) := ⟨hcz, fun e => hi1 e.1⟩
                  clear hcz hi1
                  have HNb := hid (show nb + Sc.nums ucl (P.drop (i + 1)) = T1 from by have h1 := HS1.out; have h2 := HA.out; rw [if_neg hy2] at h2; omega)
                  have HKb := hid (show kb + 1 + kdF g (i + 1) 3 (P.drop (i + 1)) = T2 from by have h1 := HS2.out; have h2 := HB2.out; rw [if_pos hinc, hcv] at h2; omega)
                  have HLt := hid (show kd = 1 → ¬ Sc.late ucl 3 (P.drop (i + 1)) from fun h hl => HS3.out h (HC2.out.2 (.inr (by rw [hcv]; exact hl))))
                  clear HA HB2 HC2 HS1 HS2 HS3
                  clear hy2 hinc
                  go_wp2_with fail
                  go_roundg (P.length - (i + 1))
                  case measure => omega
                  case rel => exact ⟨i + 1, nb, kb + 1, 3, rfl, rfl, by go_num, rfl, by go_num, by omega, by omega, by omega, HNb, HKb, HLt, HWB, HWS, HWP⟩
            · have hcy : c = y := by rw [← HC0.out, if_neg hy4]
              have t4 : (y == 4) = false := by simpa using hy4
              by_cases hy3 : y = 3
              · have hcv : c = 3 := by omega
                have hy2 : ¬ y = 2 := by omega
                subst hy3
                clear hy4 t4
                by_cases hcz : c = z
                · have hinc : ¬ (c ≠ z ∧ ¬ (i = 1 ∧ g 0 = 32 ∧ c ≠ 3)) := fun e => e.1 hcz
                  have tz : ((3 : Int) != z) = false := by rw [← hcz, hcv]; simp
                  clear hcz
                  have HNb := hid (show nb + Sc.nums ucl (P.drop (i + 1)) = T1 from by have h1 := HS1.out; have h2 := HA.out; rw [if_neg hy2] at h2; omega)
                  have HKb := hid (show kb + kdF g (i + 1) 3 (P.drop (i + 1)) = T2 from by have h1 := HS2.out; have h2 := HB2.out; rw [if_neg hinc, hcv] at h2; omega)
                  have HLt := hid (show kd = 1 → ¬ Sc.late ucl 3 (P.drop (i + 1)) from fun h hl => HS3.out h (HC2.out.2 (.inr (by rw [hcv]; exact hl))))
                  clear HA HB2 HC2 HS1 HS2 HS3
                  clear hy2 hinc
                  go_wp2_with fail
                  go_roundg (P.length - (i + 1))
                  case measure => omega
                  case rel => exact ⟨i + 1, nb, kb, 3, rfl, rfl, rfl, rfl, by go_num, by omega, by omega, by omega, HNb, HKb, HLt, HWB, HWS, HWP⟩
                · have tz : ((3 : Int) != z) = true := by rw [← hcv]; simpa using hcz
                  by_cases hi1 : i = 1
                  · have ti : ((i : Int) == 1) = true := by rw [hi1]; rfl
                    by_cases hg : g 0 = 32
                    · have tg : (gz == 32) = true := by rw [← HGz.out, hg]; rfl
                      have hinc : c ≠ z ∧ ¬ (i = 1 ∧ g 0 = 32 ∧ c ≠ 3) := ⟨hcz, fun e => e.2.2 hcv⟩
                      clear hcz hi1 hg
                      have HNb := hid (show nb + Sc.nums ucl (P.drop (i + 1)) = T1 from by have h1 := HS1.out; have h2 := HA.out; rw [if_neg hy2] at h2; omega)
                      have HKb := hid (show kb + 1 + kdF g (i + 1) 3 (P.drop (i + 1)) = T2 from by have h1 := HS2.out; have h2 := HB2.out; rw [if_pos hinc, hcv] at h2; omega)
                      have HLt := hid (show kd = 1 → ¬ Sc.late ucl 3 (P.drop (i + 1)) from fun h hl => HS3.out h (HC2.out.2 (.inr (by rw [hcv]; exact hl))))
                      clear HA HB2 HC2 HS1 HS2 HS3
                      clear hy2 hinc
                      go_wp2_with fail
                      go_roundg (P.length - (i + 1))
                      case measure => omega
                      case rel => exact ⟨i + 1, nb, kb + 1, 3, rfl, rfl, by go_num, rfl, by go_num, by omega, by omega, by omega, HNb, HKb, HLt, HWB, HWS, HWP⟩
                    · have tg : (gz == 32) = false := by rw [← HGz.out]; simpa using hg
                      have hinc : c ≠ z ∧ ¬ (i = 1 ∧ g 0 = 32 ∧ c ≠ 3) := ⟨hcz, fun e => hg e.2.1⟩
                      clear hcz hi1 hg
                      have HNb := hid (show nb + Sc.nums ucl (P.drop (i + 1)) = T1 from by have h1 := HS1.out; have h2 := HA.out; rw [if_neg hy2] at h2; omega)
                      have HKb := hid (show kb + 1 + kdF g (i + 1) 3 (P.drop (i + 1)) = T2 from by have h1 := HS2.out; have h2 := HB2.out; rw [if_pos hinc, hcv] at h2; omega)
                      have HLt := hid (show kd = 1 → ¬ Sc.late ucl 3 (P.drop (i + 1)) from fun h hl => HS3.out h (HC2.out.2 (.inr (by rw [hcv]; exact hl))))
                      clear HA HB2 HC2 HS1 HS2 HS3
                      clear hy2 hinc
                      go_wp2_with fail
                      go_roundg (P.length - (i + 1))
                      case measure => omega
                      case rel => exact ⟨i + 1, nb, kb + 1, 3, rfl, rfl, by go_num, rfl, by go_num, by omega, by omega, by omega, HNb, HKb, HLt, HWB, HWS, HWP⟩
                  · have ti : ((i : Int) == 1) = false := by rw [beq_eq_false_iff_ne]; omega
                    have hinc : c ≠ z ∧ ¬ (i = 1 ∧ g 0 = 32 ∧ c ≠ 3) := ⟨hcz, fun e => hi1 e.1⟩
                    clear hcz hi1
                    have HNb := hid (show nb + Sc.nums ucl (P.drop (i + 1)) = T1 from by have h1 := HS1.out; have h2 := HA.out; rw [if_neg hy2] at h2; omega)
                    have HKb := hid (show kb + 1 + kdF g (i + 1) 3 (P.drop (i + 1)) = T2 from by have h1 := HS2.out; have h2 := HB2.out; rw [if_pos hinc, hcv] at h2; omega)
                    have HLt := hid (show kd = 1 → ¬ Sc.late ucl 3 (P.drop (i + 1)) from fun h hl => HS3.out h (HC2.out.2 (.inr (by rw [hcv]; exact hl))))
                    clear HA HB2 HC2 HS1 HS2 HS3
                    clear hy2 hinc
                    go_wp2_with fail
                    go_roundg (P.length - (i + 1))
                    case measure => omega
                    case rel => exact ⟨i + 1, nb, kb + 1, 3, rfl, rfl, by go_num, rfl, by go_num, by omega, by omega, by omega, HNb, HKb, HLt, HWB, HWS, HWP⟩
              · by_cases hy2 : y = 2
                · have hcv : c = 2 := by omega
                  have hc3 : c ≠ 3 := by omega
                  subst hy2
                  clear hy4 t4 hy3
                  by_cases hcz : c = z
                  · have hinc : ¬ (c ≠ z ∧ ¬ (i = 1 ∧ g 0 = 32 ∧ c ≠ 3)) := fun e => e.1 hcz
                    have tz : ((2 : Int) != z) = false := by rw [← hcz, hcv]; simp
                    clear hcz
                    have HNb := hid (show nb + 1 + Sc.nums ucl (P.drop (i + 1)) = T1 from by have h1 := HS1.out; have h2 := HA.out; rw [if_pos rfl] at h2; omega)
                    have HKb := hid (show kb + kdF g (i + 1) 2 (P.drop (i + 1)) = T2 from by have h1 := HS2.out; have h2 := HB2.out; rw [if_neg hinc, hcv] at h2; omega)
                    have HLt := hid (show kd = 1 → ¬ Sc.late ucl 2 (P.drop (i + 1)) from fun h hl => HS3.out h (HC2.out.2 (.inr (by rw [hcv]; exact hl))))
                    clear HA HB2 HC2 HS1 HS2 HS3
                    clear hinc
                    go_wp2_with fail
                    go_roundg (P.length - (i + 1))
                    case measure => omega
                    case rel => exact ⟨i + 1, nb + 1, kb, 2, rfl, by go_num, rfl, rfl, by go_num, by omega, by omega, by omega, HNb, HKb, HLt, HWB, HWS, HWP⟩
                  · have tz : ((2 : Int) != z) = true := by rw [← hcv]; simpa using hcz
                    by_cases hi1 : i = 1
                    · have ti : ((i : Int) == 1) = true := by rw [hi1]; rfl
                      by_cases hg : g 0 = 32
                      · have tg : (gz == 32) = true := by rw [← HGz.out, hg]; rfl
                        have hinc : ¬ (c ≠ z ∧ ¬ (i = 1 ∧ g 0 = 32 ∧ c ≠ 3)) := fun e => e.2 ⟨hi1, hg, hc3⟩
                        clear hcz hi1 hg
                        have HNb := hid (show nb + 1 + Sc.nums ucl (P.drop (i + 1)) = T1 from by have h1 := HS1.out; have h2 := HA.out; rw [if_pos rfl] at h2; omega)
                        have HKb := hid (show kb + kdF g (i + 1) 2 (P.drop (i + 1)) = T2 from by have h1 := HS2.out; have h2 := HB2.out; rw [if_neg hinc, hcv] at h2; omega)
                        have HLt := hid (show kd = 1 → ¬ Sc.late ucl 2 (P.drop (i + 1)) from fun h hl => HS3.out h (HC2.out.2 (.inr (by rw [hcv]; exact hl))))
                        clear HA HB2 HC2 HS1 HS2 HS3
                        clear hinc
                        go_wp2_with fail
                        go_roundg (P.length - (i + 1))
                        case measure => omega
                        case rel => exact ⟨i + 1, nb + 1, kb, 2, rfl, by go_num, rfl, rfl, by go_num, by omega, by omega, by omega, HNb, HKb, HLt, HWB, HWS, HWP⟩
                      · have tg : (gz == 32) = false := by rw [← HGz.out]; simpa using hg
                        have hinc : c ≠ z ∧ ¬ (i = 1 ∧ g 0 = 32 ∧ c ≠ 3) := ⟨hcz, fun e => hg e.2.1⟩
                        clear hcz hi1 hg
                        have HNb := hid (show nb + 1 + Sc.nums ucl (P.drop (i + 1)) = T1 from by have h1 := HS1.out; have h2 := HA.out; rw [if_pos rfl] at h2; omega)
                        have HKb := hid (show kb + 1 + kdF g (i + 1) 2 (P.drop (i + 1)) = T2 from by have h1 := HS2.out; have h2 := HB2.out; rw [if_pos hinc, hcv] at h2; omega)
                        have HLt := hid (show kd = 1 → ¬ Sc.late ucl 2 (P.drop (i + 1)) from fun h hl => HS3.out h (HC2.out.2 (.inr (by rw [hcv]; exact hl))))
                        clear HA HB2 HC2 HS1 HS2 HS3
                        clear hinc
                        go_wp2_with fail
                        go_roundg (P.length - (i + 1))
                        case measure => omega
                        case rel => exact ⟨i + 1, nb + 1, kb + 1, 2, rfl, by go_num, by go_num, rfl, by go_num, by omega, by omega, by omega, HNb, HKb, HLt, HWB, HWS, HWP⟩
                    · have ti : ((i : Int) == 1) = false := by rw [beq_eq_false_iff_ne]; omega
                      have hinc : c ≠ z ∧ ¬ (i = 1 ∧ g 0 = 32 ∧ c ≠ 3) := ⟨hcz, fun e => hi1 e.1⟩
                      clear hcz hi1
                      have HNb := hid (show nb + 1 + Sc.nums ucl (P.drop (i + 1)) = T1 from by have h1 := HS1.out; have h2 := HA.out; rw [if_pos rfl] at h2; omega)
                      have HKb := hid (show kb + 1 + kdF g (i + 1) 2 (P.drop (i + 1)) = T2 from by have h1 := HS2.out; have h2 := HB2.out; rw [if_pos hinc, hcv] at h2; omega)
                      have HLt := hid (show kd = 1 → ¬ Sc.late ucl 2 (P.drop (i + 1)) from fun h hl => HS3.out h (HC2.out.2 (.inr (by rw [hcv]; exact hl))))
                      clear HA HB2 HC2 HS1 HS2 HS3
                      clear hinc
                      go_wp2_with fail
                      go_roundg (P.length - (i + 1))
                      case measure => omega
                      case rel => exact ⟨i + 1, nb + 1, kb + 1, 2, rfl, by go_num, by go_num, rfl, by go_num, by omega, by omega, by omega, HNb, HKb, HLt, HWB, HWS, HWP⟩
                · have HCy := hid hcy
                  have hc3 : c ≠ 3 := by omega
                  have t3 : (y == 3) = false := by simpa using hy3
                  have t2 : (y == 2) = false := by simpa using hy2
                  have t3n : (y != 3) = true := by simpa using hy3
                  clear hcy hy4 hy3
                  by_cases hcz : c = z
                  · have hinc : ¬ (c ≠ z ∧ ¬ (i = 1 ∧ g 0 = 32 ∧ c ≠ 3)) := fun e => e.1 hcz
                    have tz : (y != z) = false := by rw [← HCy.out, hcz]; simp
                    clear hcz
                    have HNb := hid (show nb + Sc.nums ucl (P.drop (i + 1)) = T1 from by have h1 := HS1.out; have h2 := HA.out; rw [if_neg hy2] at h2; omega)
                    have HKb := hid (show kb + kdF g (i + 1) y (P.drop (i + 1)) = T2 from by have h1 := HS2.out; have h2 := HB2.out; rw [if_neg hinc, HCy.out] at h2; omega)
                    have HLt := hid (show kd = 1 → ¬ Sc.late ucl y (P.drop (i + 1)) from fun h hl => HS3.out h (HC2.out.2 (.inr (by rw [HCy.out]; exact hl))))
                    clear HA HB2 HC2 HS1 HS2 HS3
                    clear hy2 hinc
                    go_wp2_with fail
                    go_roundg (P.length - (i + 1))
                    case measure => omega
                    case rel => exact ⟨i + 1, nb, kb, y, rfl, rfl, rfl, rfl, by go_num, by omega, by omega, by omega, HNb, HKb, HLt, HWB, HWS, HWP⟩
                  · have tz : (y != z) = true := by rw [← HCy.out]; simpa using hcz
                    by_cases hi1 : i = 1
                    · have ti : ((i : Int) == 1) = true := by rw [hi1]; rfl
                      by_cases hg : g 0 = 32
                      · have tg : (gz == 32) = true := by rw [← HGz.out, hg]; rfl
                        have hinc : ¬ (c ≠ z ∧ ¬ (i = 1 ∧ g 0 = 32 ∧ c ≠ 3)) := fun e => e.2 ⟨hi1, hg, hc3⟩
                        clear hcz hi1 hg
                        have HNb := hid (show nb + Sc.nums ucl (P.drop (i + 1)) = T1 from by have h1 := HS1.out; have h2 := HA.out; rw [if_neg hy2] at h2; omega)
                        have HKb := hid (show kb + kdF g (i + 1) y (P.drop (i + 1)) = T2 from by have h1 := HS2.out; have h2 := HB2.out; rw [if_neg hinc, HCy.out] at h2; omega)
                        have HLt := hid (show kd = 1 → ¬ Sc.late ucl y (P.drop (i + 1)) from fun h hl => HS3.out h (HC2.out.2 (.inr (by rw [HCy.out]; exact hl))))
                        clear HA HB2 HC2 HS1 HS2 HS3
                        clear hy2 hinc
                        go_wp2_with fail
                        go_roundg (P.length - (i + 1))
                        case measure => omega
                        case rel => exact ⟨i + 1, nb, kb, y, rfl, rfl, rfl, rfl, by go_num, by omega, by omega, by omega, HNb, HKb, HLt, HWB, HWS, HWP⟩
                      · have tg : (gz == 32) = false := by rw [← HGz.out]; simpa using hg
                        have hinc : c ≠ z ∧ ¬ (i = 1 ∧ g 0 = 32 ∧ c ≠ 3) := ⟨hcz, fun e => hg e.2.1⟩
                        clear hcz hi1 hg
                        have HNb := hid (show nb + Sc.nums ucl (P.drop (i + 1)) = T1 from by have h1 := HS1.out; have h2 := HA.out; rw [if_neg hy2] at h2; omega)
                        have HKb := hid (show kb + 1 + kdF g (i + 1) y (P.drop (i + 1)) = T2 from by have h1 := HS2.out; have h2 := HB2.out; rw [if_pos hinc, HCy.out] at h2; omega)
                        have HLt := hid (show kd = 1 → ¬ Sc.late ucl y (P.drop (i + 1)) from fun h hl => HS3.out h (HC2.out.2 (.inr (by rw [HCy.out]; exact hl))))
                        clear HA HB2 HC2 HS1 HS2 HS3
                        clear hy2 hinc
                        go_wp2_with fail
                        go_roundg (P.length - (i + 1))
                        case measure => omega
                        case rel => exact ⟨i + 1, nb, kb + 1, y, rfl, rfl, by go_num, rfl, by go_num, by omega, by omega, by omega, HNb, HKb, HLt, HWB, HWS, HWP⟩
                    · have ti : ((i : Int) == 1) = false := by rw [beq_eq_false_iff_ne]; omega
                      have hinc : c ≠ z ∧ ¬ (i = 1 ∧ g 0 = 32 ∧ c ≠ 3) := ⟨hcz, fun e => hi1 e.1⟩
                      clear hcz hi1
                      have HNb := hid (show nb + Sc.nums ucl (P.drop (i + 1)) = T1 from by have h1 := HS1.out; have h2 := HA.out; rw [if_neg hy2] at h2; omega)
                      have HKb := hid (show kb + 1 + kdF g (i + 1) y (P.drop (i + 1)) = T2 from by have h1 := HS2.out; have h2 := HB2.out; rw [if_pos hinc, HCy.out] at h2; omega)
                      have HLt := hid (show kd = 1 → ¬ Sc.late ucl y (P.drop (i + 1)) from fun h hl => HS3.out h (HC2.out.2 (.inr (by rw [HCy.out]; exact hl))))
                      clear HA HB2 HC2 HS1 HS2 HS3
                      clear hy2 hinc
                      go_wp2_with fail
                      go_roundg (P.length - (i + 1))
                      case measure => omega
                      case rel => exact ⟨i + 1, nb, kb + 1, y, rfl, rfl, by go_num, rfl, by go_num, by omega, by omega, by omega, HNb, HKb, HLt, HWB, HWS, HWP⟩
        · obtain rfl : i = P.length := by omega
          have hnb1 : nb ≤ T1 := by have h := HS1.out; omega
          have hkb1 : kb ≤ T2 := by have h := HS2.out; omega
          obtain ⟨b', off', eb, hb', hcb⟩ := HWS.out.at' hm0
          cases eb
          have g0 := hcb 0 hm0
          rw [Nat.add_zero] at g0
          have HPW := hid HPC.out.wide
          have HPP := hid HPC.out.plain
          rw [HQ1.out] at HPW
          rw [HQ2.out] at HPP
          clear HS1 HS2 HS3 hcb hb' HPC
          have hkd := HKd.out
          rcases hkd with rfl | rfl | rfl
          · clear HPW HPP
            by_cases hcN : cc = N
            · subst hcN
              have HS4 := hid (show Sl wr (some ⟨b, off, none⟩) 0 0 (Utf.sh g cc) from ⟨Nat.le_refl _, Nat.zero_le _, fun i => HWS.out.bd _, fun e => absurd e (by simp), fun h0 => by omega⟩)
              go_wp2_with fail
              go_roundg (bn - (pos + cc))
              case measure => have := HLT.out; omega
              case rel => exact ⟨pos + cc, _, _, rfl, by rw [show bn - (pos + cc) = 0 by have := HMm.out; omega], by have := HMm.out; omega, hid (by rw [show bn - (pos + cc) = 0 by have := HMm.out; omega, ← Utf.sh_sh, HGg.out]; exact HS4.out), HWB⟩
            · have HS4 := hid (show Sl wr (some ⟨b, off + N, none⟩) (m - N) (cc - N) (Utf.sh g N) from by
                by_cases h : N < m
                · exact drop_byt HWS.out N h
                · exact ⟨by omega, by unfold maxLen; omega, fun i => HWS.out.bd _, fun e => absurd e (by simp), fun h0 => by omega⟩)
              go_wp2_with fail
              go_roundg (bn - (pos + N))
              case measure => have := HLT.out; omega
              case rel => exact ⟨pos + N, _, _, rfl, by rw [show bn - (pos + N) = m - N by have := HMm.out; omega], by have := HMm.out; omega, hid (by rw [show bn - (pos + N) = m - N by have := HMm.out; omega, ← Utf.sh_sh, HGg.out]; exact HS4.out), HWB⟩
          · by_cases hk1 : kb ≤ 1
            · have q1 : ¬ (1 : Int) < kb := by omega
              clear HPW HPP hk1
              by_cases hcN : cc = N
              · subst hcN
                have HS4 := hid (show Sl wr (some ⟨b, off, none⟩) 0 0 (Utf.sh g cc) from ⟨Nat.le_refl _, Nat.zero_le _, fun i => HWS.out.bd _, fun e => absurd e (by simp), fun h0 => by omega⟩)
                go_wp2_with fail
                go_roundg (bn - (pos + cc))
                case measure => have := HLT.out; omega
                case rel => exact ⟨pos + cc, _, _, rfl, by rw [show bn - (pos + cc) = 0 by have := HMm.out; omega], by have := HMm.out; omega, hid (by rw [show bn - (pos + cc) = 0 by have := HMm.out; omega, ← Utf.sh_sh, HGg.out]; exact HS4.out), HWB⟩
              · have HS4 := hid (show Sl wr (some ⟨b, off + N, none⟩) (m - N) (cc - N) (Utf.sh g N) from by
                  by_cases h : N < m
                  · exact drop_byt HWS.out N h
                  · exact ⟨by omega, by unfold maxLen; omega, fun i => HWS.out.bd _, fun e => absurd e (by simp), fun h0 => by omega⟩)
                go_wp2_with fail
                go_roundg (bn - (pos + N))
                case measure => have := HLT.out; omega
                case rel => exact ⟨pos + N, _, _, rfl, by rw [show bn - (pos + N) = m - N by have := HMm.out; omega], by have := HMm.out; omega, hid (by rw [show bn - (pos + N) = m - N by have := HMm.out; omega, ← Utf.sh_sh, HGg.out]; exact HS4.out), HWB⟩
            · have q1 : (1 : Int) < kb := by omega
              obtain ⟨h39, hn3⟩ := (HPP.out rfl).resolve_left (fun e => hk1 (by omega))
              have q2 : (N : Int) ≤ 3 := by omega
              rw [h39] at g0
              clear HPW HPP hk1 h39
              by_cases hcN : cc = N
              · subst hcN
                have HS4 := hid (show Sl wr (some ⟨b, off, none⟩) 0 0 (Utf.sh g cc) from ⟨Nat.le_refl _, Nat.zero_le _, fun i => HWS.out.bd _, fun e => absurd e (by simp), fun h0 => by omega⟩)
                go_wp2_with fail
                go_roundg (bn - (pos + cc))
                case measure => have := HLT.out; omega
                case rel => exact ⟨pos + cc, _, _, rfl, by rw [show bn - (pos + cc) = 0 by have := HMm.out; omega], by have := HMm.out; omega, hid (by rw [show bn - (pos + cc) = 0 by have := HMm.out; omega, ← Utf.sh_sh, HGg.out]; exact HS4.out), HWB⟩
              · have HS4 := hid (show Sl wr (some ⟨b, off + N, none⟩) (m - N) (cc - N) (Utf.sh g N) from by
                  by_cases h : N < m
                  · exact drop_byt HWS.out N h
                  · exact ⟨by omega, by unfold maxLen; omega, fun i => HWS.out.bd _, fun e => absurd e (by simp), fun h0 => by omega⟩)
                go_wp2_with fail
                go_roundg (bn - (pos + N))
                case measure => have := HLT.out; omega
                case rel => exact ⟨pos + N, _, _, rfl, by rw [show bn - (pos + N) = m - N by have := HMm.out; omega], by have := HMm.out; omega, hid (by rw [show bn - (pos + N) = m - N by have := HMm.out; omega, ← Utf.sh_sh, HGg.out]; exact HS4.out), HWB⟩
          · have q1 : ¬ (3 : Int) < nb := by have := HPW.out rfl; omega
            clear HPW HPP
            by_cases hcN : cc = N
            · subst hcN
              have HS4 := hid (show Sl wr (some ⟨b, off, none⟩) 0 0 (Utf.sh g cc) from ⟨Nat.le_refl _, Nat.zero_le _, fun i => HWS.out.bd _, fun e => absurd e (by simp), fun h0 => by omega⟩)
              go_wp2_with fail
              go_roundg (bn - (pos + cc))
              case measure => have := HLT.out; omega
              case rel => exact ⟨pos + cc, _, _, rfl, by rw [show bn - (pos + cc) = 0 by have := HMm.out; omega], by have := HMm.out; omega, hid (by rw [show bn - (pos + cc) = 0 by have := HMm.out; omega, ← Utf.sh_sh, HGg.out]; exact HS4.out), HWB⟩
            · have HS4 := hid (show Sl wr (some ⟨b, off + N, none⟩) (m - N) (cc - N) (Utf.sh g N) from by
                by_cases h : N < m
                · exact drop_byt HWS.out N h
                · exact ⟨by omega, by unfold maxLen; omega, fun i => HWS.out.bd _, fun e => absurd e (by simp), fun h0 => by omega⟩)
              go_wp2_with fail
              go_roundg (bn - (pos + N))
              case measure => have := HLT.out; omega
              case rel => exact ⟨pos + N, _, _, rfl, by rw [show bn - (pos + N) = m - N by have := HMm.out; omega], by have := HMm.out; omega, hid (by rw [show bn - (pos + N) = m - N by have := HMm.out; omega, ← Utf.sh_sh, HGg.out]; exact HS4.out), HWB⟩
    · obtain rfl : pos = bn := by omega
      rw [Nat.sub_self]
      clear HS
      go_wp2_with fail
      refine (HFix.out _ HB.out).mono ?_
      rintro e w3 ⟨rfl, b3⟩
      have HB3 := hid b3
      clear b3
      go_wp2_with fail
      go_ret
      exact ⟨rfl, HB3.out⟩
end Go.Proofs.YtlomdihpdaealaaDoor
