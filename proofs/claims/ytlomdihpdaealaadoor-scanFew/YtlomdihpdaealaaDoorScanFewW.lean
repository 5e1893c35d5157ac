/-
  Stage 12's law ScanFew, walked.
-/
import Derived.Test.YtlomdihpdaealaaDoorScFx
namespace Go.Proofs.YtlomdihpdaealaaDoor
open Go.RowKit
set_option linter.unusedVariables false
/-- So many pieces have been open. -/
def FwK (kind : Nat) (K o : Nat) (f : Nat → Int) (n : Nat) : Prop := if kind = 0 then (o = 0 ∧ True) ∨ (o = 1 ∧ n = 0) else Sc.FwI ucl kind K o f n
theorem fwk_start {kind : Nat} {f : Nat → Int} {n : Nat} : FwK kind (Utf.rest f n) 0 f n := by
  unfold FwK
  split
  · exact .inl ⟨rfl, trivial⟩
  · exact .inl ⟨rfl, rfl⟩
theorem fwk_le {kind K o n : Nat} {f : Nat → Int} (h : FwK kind K o f n) : o ≤ Sc.most K := by
  unfold FwK at h
  split at h
  · unfold Sc.most
    split <;> omega
  · exact h.le
/-- One round: how many bytes, whether decided, and what is kept. -/
theorem fwk_step (w : World) {kind K o n : Nat} {f : Nat → Int} (hk : kind ≤ 3) (hn : 0 < n) (h : FwK kind K o f n) :
    ∃ N ok, Sc.nx (Cl.of UL UH UC 51) (Cl.may UL UH UC 51) (kind : Int) f n false = (N, ok) ∧ 1 ≤ N ∧ N ≤ n ∧ ((ok = true ∧ o = 0 ∧ FwK kind K 0 (Utf.sh f N) (n - N)) ∨ (¬ (ok = true ∧ o = 0) ∧ FwK kind K (o + 1) (Utf.sh f N) (n - N))) := by
  have hno : ¬ (n = 0 ∨ Cl.may UL UH UC 51 = false) := fun e => e.elim (by omega) (fun e => by rw [uMay] at e; cases e)
  by_cases h0 : kind = 0
  · subst h0
    refine ⟨n, false, Sc.nx_zero hno, hn, Nat.le_refl _, .inr ⟨fun e => (by cases e.1), ?_⟩⟩
    unfold FwK at h ⊢
    rw [if_pos rfl] at h ⊢
    right
    rcases h with ⟨rfl, _⟩ | ⟨_, h⟩
    · exact ⟨rfl, by omega⟩
    · omega
  · have hk' : kind = 1 ∨ kind = 2 ∨ kind = 3 := by omega
    unfold FwK at h ⊢
    rw [if_neg h0] at h
    refine ⟨Sc.next ucl kind f n, Sc.decB ucl kind (Sc.sure f n) (Utf.pts f n), ?_, Sc.next_pos (urg w) hn, Sc.next_le f n, ?_⟩
    · rw [Sc.nx_kind hno hk', Bool.false_or]; rfl
    · rw [if_neg h0, if_neg h0]
      rcases Sc.few_step (uUs w) hk' hn h with ⟨e1, e2, e3⟩ | ⟨e1, e2⟩
      · exact .inl ⟨Sc.decB_iff.2 e2, e1, e3⟩
      · exact .inr ⟨fun e => e1 ⟨e.2, Sc.decB_iff.1 e.1⟩, e2⟩
set_option maxRecDepth 100000 in
set_option maxHeartbeats 3200000 in
theorem scanFew_calls {w : World} {ba : Option Addr} {bn bc : Nat} {f : Nat → Int} (kind : Int) (B : Sl w ba bn bc f) (hE : Ends w) :
    Calls Tryd.prog 7 #[.int .i64 kind, .slice ba bn bc] w fun e w' => e = .returned (.bool true) ∧ Below w.heap.size w w' := by
  have HBy := hid B
  have HE := hid hE
  have h2 := Nat.le_trans B.le B.mx
  unfold maxLen at h2
  clear B hE
  have HFix := hid (fun (w1 : World) (b : Below w.heap.size w w1) => (fixed12_calls (HE.out.below b (Nat.le_refl _))).mono (fun e w' h => (⟨h.1, b.trans (h.2.mono b.size)⟩ : e = .returned (.bool true) ∧ Below w.heap.size w w')))
  go_enter Tryd.func7, Tryd.ntmps7
  by_cases hbig : 200 < bn
  · have k1 : (200 : Int) < bn := by omega
    go_wp2_with fail
    refine (HFix.out _ (Below.refl _ _)).mono ?_
    rintro e w1 ⟨rfl, b1⟩
    have HB1 := hid b1
    clear b1
    go_wp2_with fail
    go_ret
    exact ⟨rfl, HB1.out⟩
  have k1 : ¬ (200 : Int) < bn := by omega
  by_cases hk0 : kind < 0
  · go_wp2_with fail
    refine (HFix.out _ (Below.refl _ _)).mono ?_
    rintro e w1 ⟨rfl, b1⟩
    have HB1 := hid b1
    clear b1
    go_wp2_with fail
    go_ret
    exact ⟨rfl, HB1.out⟩
  by_cases hk3 : 3 < kind
  · go_wp2_with fail
    refine (HFix.out _ (Below.refl _ _)).mono ?_
    rintro e w1 ⟨rfl, b1⟩
    have HB1 := hid b1
    clear b1
    go_wp2_with fail
    go_ret
    exact ⟨rfl, HB1.out⟩
  obtain ⟨kd, rfl, hkd⟩ : ∃ k : Nat, kind = k ∧ k ≤ 3 := ⟨kind.toNat, by omega, by omega⟩
  have HKd := hid hkd
  have hs : bn ≤ 200 := by omega
  clear hbig hkd
  have HS0 := hid (fwk_start (kind := kd) (f := f) (n := bn))
  obtain ⟨K, hK⟩ : ∃ K, Utf.rest f bn = K := ⟨_, rfl⟩
  have HK := hid hK
  rw [hK] at HS0
  clear hK
  go_wp2_with fail
  go_loopg [5, 6] bn (fun r ov rv wr => ∃ (o pos : Nat) (a : Option Addr) (c : Nat), r = bn - pos ∧ ov = .int .i64 (o : Int) ∧ rv = .slice a (bn - pos) c ∧ pos ≤ bn ∧ o ≤ pos ∧ Hid (Sl wr a (bn - pos) c (Utf.sh f pos)) ∧ Hid (FwK kd K o (Utf.sh f pos) (bn - pos)) ∧ Hid (Below w.heap.size w wr))
  case atStart => exact ⟨0, 0, ba, bc, rfl, rfl, rfl, Nat.zero_le _, Nat.le_refl _, by rw [Utf.sh_zero]; exact HBy, by rw [Utf.sh_zero]; exact HS0, hid (Below.refl _ _)⟩
  case round =>
    obtain ⟨o, pos, a, c, rfl, rfl, rfl, hp, hop, HS, HF, HB⟩ := hrel
    by_cases hlt : pos < bn
    · obtain ⟨m, hm⟩ : ∃ m, bn - pos = m := ⟨_, rfl⟩
      have HMm := hid hm
      rw [hm] at HS HF ⊢
      have k2 : (0 : Int) < m := by omega
      have hm0 : 0 < m := by omega
      have hm2 : m ≤ 200 := by omega
      obtain ⟨N, ok, hnx, hN1, hN2, hst⟩ := fwk_step w HKd.out hm0 HF.out
      have HNX := hid hnx
      have HST := hid hst
      have HLT := hid hlt
      clear hnx hst hlt hm
      go_wp2_with fail
      refine (usual12_calls _).mono ?_
      rintro e w1 ⟨rfl, rfl⟩
      have bu := (Below.refl wr.heap.size wr).alloc (Nat.le_refl _) (.cells uCells 58)
      have R1 := hid (uRs wr 58 wr.heap.size rfl)
      have HB1 := hid (HB.out.trans (bu.mono HB.out.size))
      have HS1 := hid (HS.out.below bu)
      obtain ⟨W1, hW1⟩ : ∃ W, wr.alloc (.cells uCells 58) = W := ⟨_, rfl⟩
      obtain ⟨T0, hT0⟩ : ∃ T, wr.heap.size = T := ⟨_, rfl⟩
      rw [hW1] at R1 HB1 HS1 ⊢
      rw [hT0] at R1 ⊢
      clear bu hW1 hT0 HB HS
      have HE1 := hid (HE.out.below HB1.out (Nat.le_refl _))
      go_wp2_with fail
      refine (next_calls (kd : Int) R1.out HS1.out (by omega) HE1.out false).mono ?_
      rintro e w2 ⟨rfl, b2⟩
      rw [HNX.out]
      unfold NX
      have HB2 := hid (HB1.out.trans (b2.mono HB1.out.size))
      have HS2 := hid (HS1.out.below b2)
      clear b2 R1 HB1 HS1 HE1
      have j1 : ¬ (N : Int) < 1 := by omega
      have j2 : ¬ (m : Int) < N := by omega
      have j3 : (N : Int) ≤ m := by omega
      have j4 : (0 : Int) ≤ N := by omega
      have e1 : IntKind.i64.wrap ((o : Int) + 1) = o + 1 := i64_in (by omega) (by omega)
      obtain ⟨b, off, rfl, hbl, hcc⟩ := HS2.out.at' (by omega)
      clear hcc
      have hle := HS2.out.le
      have hmx := HS2.out.mx
      unfold maxLen at hmx
      by_cases hcN : c = N
      · subst hcN
        have HS4 := hid (show Sl w2 (some ⟨b, off, none⟩) 0 0 (Utf.sh (Utf.sh f pos) c) from ⟨Nat.le_refl _, Nat.zero_le _, fun i => HS2.out.bd _, fun e => absurd e (by simp), fun h0 => by omega⟩)
        by_cases ho : o = 0
        · subst ho
          cases ok with
          | true =>
            have HF2 := hid (show FwK kd K 0 (Utf.sh (Utf.sh f pos) c) (m - c) from HST.out.elim (fun e => e.2.2) (fun e => absurd ⟨rfl, rfl⟩ e.1))
            clear HST HF
            go_wp2_with fail
            go_roundg (bn - (pos + c))
            case measure => have := HLT.out; omega
            case rel => exact ⟨0, pos + c, _, _, rfl, rfl, by rw [show bn - (pos + c) = 0 by have := HMm.out; omega], by have := HMm.out; omega, by omega, hid (by rw [show bn - (pos + c) = 0 by have := HMm.out; omega, ← Utf.sh_sh]; exact HS4.out), hid (by rw [show bn - (pos + c) = m - c by have := HMm.out; omega, ← Utf.sh_sh]; exact HF2.out), HB2⟩
          | false =>
            have HF2 := hid (show FwK kd K (0 + 1) (Utf.sh (Utf.sh f pos) c) (m - c) from HST.out.elim (fun e => by cases e.1) (fun e => e.2))
            clear HST HF
            go_wp2_with fail
            go_roundg (bn - (pos + c))
            case measure => have := HLT.out; omega
            case rel => exact ⟨0 + 1, pos + c, _, _, rfl, by go_num, by rw [show bn - (pos + c) = 0 by have := HMm.out; omega], by have := HMm.out; omega, by omega, hid (by rw [show bn - (pos + c) = 0 by have := HMm.out; omega, ← Utf.sh_sh]; exact HS4.out), hid (by rw [show bn - (pos + c) = m - c by have := HMm.out; omega, ← Utf.sh_sh]; exact HF2.out), HB2⟩
        · have HF2 := hid (show FwK kd K (o + 1) (Utf.sh (Utf.sh f pos) c) (m - c) from HST.out.elim (fun e => absurd e.2.1 ho) (fun e => e.2))
          have j5 : (0 : Int) < o := by omega
          clear ho
          cases ok with
          | true =>
            clear HST HF
            go_wp2_with fail
            go_roundg (bn - (pos + c))
            case measure => have := HLT.out; omega
            case rel => exact ⟨o + 1, pos + c, _, _, rfl, by go_num, by rw [show bn - (pos + c) = 0 by have := HMm.out; omega], by have := HMm.out; omega, by omega, hid (by rw [show bn - (pos + c) = 0 by have := HMm.out; omega, ← Utf.sh_sh]; exact HS4.out), hid (by rw [show bn - (pos + c) = m - c by have := HMm.out; omega, ← Utf.sh_sh]; exact HF2.out), HB2⟩
          | false =>
            clear HST HF
            go_wp2_with fail
            go_roundg (bn - (pos + c))
            case measure => have := HLT.out; omega
            case rel => exact ⟨o + 1, pos + c, _, _, rfl, by go_num, by rw [show bn - (pos + c) = 0 by have := HMm.out; omega], by have := HMm.out; omega, by omega, hid (by rw [show bn - (pos + c) = 0 by have := HMm.out; omega, ← Utf.sh_sh]; exact HS4.out), hid (by rw [show bn - (pos + c) = m - c by have := HMm.out; omega, ← Utf.sh_sh]; exact HF2.out), HB2⟩
      · have HS4 := hid (show Sl w2 (some ⟨b, off + N, none⟩) (m - N) (c - N) (Utf.sh (Utf.sh f pos) N) from by
          by_cases h : N < m
          · exact drop_byt HS2.out N h
          · exact ⟨by omega, by unfold maxLen; omega, fun i => HS2.out.bd _, fun e => absurd e (by simp), fun h0 => by omega⟩)
        by_cases ho : o = 0
        · subst ho
          cases ok with
          | true =>
            have HF2 := hid (show FwK kd K 0 (Utf.sh (Utf.sh f pos) N) (m - N) from HST.out.elim (fun e => e.2.2) (fun e => absurd ⟨rfl, rfl⟩ e.1))
            clear HST HF
            go_wp2_with fail
            go_roundg (bn - (pos + N))
            case measure => have := HLT.out; omega
            case rel => exact ⟨0, pos + N, _, _, rfl, rfl, by rw [show bn - (pos + N) = m - N by have := HMm.out; omega], by have := HMm.out; omega, by omega, hid (by rw [show bn - (pos + N) = m - N by have := HMm.out; omega, ← Utf.sh_sh]; exact HS4.out), hid (by rw [show bn - (pos + N) = m - N by have := HMm.out; omega, ← Utf.sh_sh]; exact HF2.out), HB2⟩
          | false =>
            have HF2 := hid (show FwK kd K (0 + 1) (Utf.sh (Utf.sh f pos) N) (m - N) from HST.out.elim (fun e => by cases e.1) (fun e => e.2))
            clear HST HF
            go_wp2_with fail
            go_roundg (bn - (pos + N))
            case measure => have := HLT.out; omega
            case rel => exact ⟨0 + 1, pos + N, _, _, rfl, by go_num, by rw [show bn - (pos + N) = m - N by have := HMm.out; omega], by have := HMm.out; omega, by omega, hid (by rw [show bn - (pos + N) = m - N by have := HMm.out; omega, ← Utf.sh_sh]; exact HS4.out), hid (by rw [show bn - (pos + N) = m - N by have := HMm.out; omega, ← Utf.sh_sh]; exact HF2.out), HB2⟩
        · have HF2 := hid (show FwK kd K (o + 1) (Utf.sh (Utf.sh f pos) N) (m - N) from HST.out.elim (fun e => absurd e.2.1 ho) (fun e => e.2))
          have j5 : (0 : Int) < o := by omega
          clear ho
          cases ok with
          | true =>
            clear HST HF
            go_wp2_with fail
            go_roundg (bn - (pos + N))
            case measure => have := HLT.out; omega
            case rel => exact ⟨o + 1, pos + N, _, _, rfl, by go_num, by rw [show bn - (pos + N) = m - N by have := HMm.out; omega], by have := HMm.out; omega, by omega, hid (by rw [show bn - (pos + N) = m - N by have := HMm.out; omega, ← Utf.sh_sh]; exact HS4.out), hid (by rw [show bn - (pos + N) = m - N by have := HMm.out; omega, ← Utf.sh_sh]; exact HF2.out), HB2⟩
          | false =>
            clear HST HF
            go_wp2_with fail
            go_roundg (bn - (pos + N))
            case measure => have := HLT.out; omega
            case rel => exact ⟨o + 1, pos + N, _, _, rfl, by go_num, by rw [show bn - (pos + N) = m - N by have := HMm.out; omega], by have := HMm.out; omega, by omega, hid (by rw [show bn - (pos + N) = m - N by have := HMm.out; omega, ← Utf.sh_sh]; exact HS4.out), hid (by rw [show bn - (pos + N) = m - N by have := HMm.out; omega, ← Utf.sh_sh]; exact HF2.out), HB2⟩
    · obtain rfl : pos = bn := by omega
      have hle := fwk_le HF.out
      have HLe := hid hle
      have hcv := run_convert_sl (P := Tryd.prog) wr 23 5 9 Tryd.underlying23 Tryd.underlying5 Tryd.underlying9 (HBy.out.below HB.out)
      have HSt := hid (St.of HBy.out.bd pos)
      rw [Nat.sub_self]
      clear hle HS HF
      go_wp2_with fail
      refine (refRest_calls _ pos f _ HSt.out (by omega)).mono ?_
      rintro e w2 ⟨rfl, b2⟩
      rw [HK.out]
      have HB2 := hid (HB.out.trans (b2.mono HB.out.size))
      clear b2 hcv
      by_cases hK0 : K = 0
      · have HM := hid (show o ≤ 2 from by have := HLe.out; unfold Sc.most at this; rw [if_pos hK0] at this; exact this)
        subst hK0
        go_wp2_with fail
        refine (HFix.out _ HB2.out).mono ?_
        rintro e w3 ⟨rfl, b3⟩
        have HB3 := hid b3
        have j6 : (o : Int) ≤ 2 := by have := HM.out; omega
        clear b3
        go_wp2_with fail
        go_ret
        exact ⟨rfl, HB3.out⟩
      · have HM := hid (show o ≤ 4 from by have := HLe.out; unfold Sc.most at this; rw [if_neg hK0] at this; exact this)
        have j7 : ((K : Int) == 0) = false := by rw [beq_eq_false_iff_ne]; omega
        clear hK0
        go_wp2_with fail
        refine (HFix.out _ HB2.out).mono ?_
        rintro e w3 ⟨rfl, b3⟩
        have HB3 := hid b3
        have j6 : (o : Int) ≤ 4 := by have := HM.out; omega
        clear b3
        go_wp2_with fail
        go_ret
        exact ⟨rfl, HB3.out⟩
end Go.Proofs.YtlomdihpdaealaaDoor
