/-
  Stage 12's law ScanStays, walked.
-/
import Derived.Test.YtlomdihpdaealaaDoorScFx
namespace Go.Proofs.YtlomdihpdaealaaDoor
open Go.RowKit
set_option linter.unusedVariables false
/-- A piece that is decided stays, whatever comes behind. -/
theorem nx_stays {L H C : Nat → Int} {tn : Nat} {kind : Int} {f g : Nat → Int} {n m N : Nat} (hnm : n ≤ m) (hfg : ∀ i, i < n → f i = g i) (w : World) (h : Sc.nx (Cl.of L H C tn) (Cl.may L H C tn) kind f n false = (N, true)) (fin : Bool) :
    0 < N ∧ Sc.nx (Cl.of L H C tn) (Cl.may L H C tn) kind g m fin = (N, true) ∧ Sc.nx (Cl.of L H C tn) (Cl.may L H C tn) kind f n true = (N, true) := by
  by_cases h0 : n = 0 ∨ Cl.may L H C tn = false
  · rw [Sc.nx_none h0] at h; cases h
  · have hm : Cl.may L H C tn = true := by
      cases hm : Cl.may L H C tn with
      | true => rfl
      | false => exact absurd (.inr hm) h0
    have hn : 0 < n := Nat.pos_of_ne_zero (fun e => h0 (.inl e))
    have h0m : ¬ (m = 0 ∨ Cl.may L H C tn = false) := fun e => e.elim (by omega) (fun e => by rw [hm] at e; cases e)
    have hr : ∀ p, 0 ≤ Cl.of L H C tn p ∧ Cl.of L H C tn p ≤ 4 := fun p => Dt.cl_rg ⟨0, w, none, tn, tn, L, H, C, 0, 0, 0, 0, fun _ => 0⟩ hm p
    by_cases hk0 : kind = 0
    · subst hk0; rw [Sc.nx_zero h0] at h; cases h
    by_cases hk : kind = 1 ∨ kind = 2 ∨ kind = 3
    · obtain ⟨k, rfl, hk'⟩ : ∃ k : Nat, kind = k ∧ (k = 1 ∨ k = 2 ∨ k = 3) := ⟨kind.toNat, by omega, by omega⟩
      rw [Sc.nx_kind h0 hk'] at h
      obtain ⟨hN, hd⟩ := Prod.mk.inj h
      rw [Bool.false_or] at hd
      obtain ⟨e1, e2⟩ := Sc.stays hr hk' hn hnm hfg (Sc.decB_iff.1 hd)
      refine ⟨by rw [← hN]; exact Sc.next_pos hr hn, ?_, ?_⟩
      · rw [Sc.nx_kind h0m hk', e1, hN, Sc.decB_iff.2 e2, Bool.or_true]
      · rw [Sc.nx_kind h0 hk', hN, Bool.true_or]
    · rw [Sc.nx_odd (fun e => e.elim hk0 hk)] at h; cases h
set_option maxRecDepth 100000 in
set_option maxHeartbeats 3200000 in
theorem scanStays_calls {w : World} {ta ba ha : Option Addr} {tn tc bn bc hn hc : Nat} {L H C f g : Nat → Int} (kind : Int) (T : Rs w ta tn tc L H C) (B : Sl w ba bn bc f) (G : Sl w ha hn hc g) (fin : Bool) (hE : Ends w) :
    Calls Tryd.prog 5 #[.int .i64 kind, .slice ta tn tc, .slice ba bn bc, .slice ha hn hc, .bool fin] w fun e w' => e = .returned (.bool true) ∧ Below w.heap.size w w' := by
  have h8 : (Tryd.prog.info? 5).map (fun i => (i.zero, i.size, i.bytes)) = some (some (.int .u8 0), 1, 1) := by kernel_rfl
  obtain ⟨i0, hi0, hz0, hz1, hz2⟩ := info_parts h8
  have HT := hid T
  have HBy := hid B
  have HG := hid G
  have HE := hid hE
  have h1 := Nat.le_trans T.le T.mx
  have h2 := Nat.le_trans B.le B.mx
  have h3 := Nat.le_trans G.le G.mx
  clear T B G hE h8
  have HFix := hid (fun (w1 : World) (b : Below w.heap.size w w1) => (fixed12_calls (HE.out.below b (Nat.le_refl _))).mono (fun e w' h => (⟨h.1, b.trans (h.2.mono b.size)⟩ : e = .returned (.bool true) ∧ Below w.heap.size w w')))
  go_enter Tryd.func5, Tryd.ntmps5
  go_wp2_with fail
  refine (great_calls h1 h2).mono ?_
  rintro e w ⟨rfl, rfl⟩
  by_cases hbig : (greatB tn bn = true ∨ 100 < bn ∨ 100 < hn)
  · cases hg : greatB tn bn with
    | true =>
      clear hg hbig
      go_wp2_with fail
      refine (HFix.out _ (Below.refl _ _)).mono ?_
      rintro e w1 ⟨rfl, b1⟩
      have HB1 := hid b1
      clear b1
      go_wp2_with fail
      go_ret
      exact ⟨rfl, HB1.out⟩
    | false =>
      unfold maxLen at h2 h3
      by_cases hb : 100 < bn
      · have k1 : (100 : Int) < bn := by omega
        clear hg hbig hb
        go_wp2_with fail
        refine (HFix.out _ (Below.refl _ _)).mono ?_
        rintro e w1 ⟨rfl, b1⟩
        have HB1 := hid b1
        clear b1
        go_wp2_with fail
        go_ret
        exact ⟨rfl, HB1.out⟩
      · have k1 : ¬ (100 : Int) < bn := by omega
        have hh : 100 < hn := by
          rcases hbig with h | h | h
          · rw [hg] at h; cases h
          · exact absurd h hb
          · exact h
        have k2 : (100 : Int) < hn := by omega
        clear hg hbig hb hh
        go_wp2_with fail
        refine (HFix.out _ (Below.refl _ _)).mono ?_
        rintro e w1 ⟨rfl, b1⟩
        have HB1 := hid b1
        clear b1
        go_wp2_with fail
        go_ret
        exact ⟨rfl, HB1.out⟩
  · have hg : greatB tn bn = false := by
      cases hg : greatB tn bn with
      | false => rfl
      | true => exact absurd (.inl hg) hbig
    have hb : bn ≤ 100 := Nat.le_of_not_lt (fun h => hbig (.inr (.inl h)))
    have hh : hn ≤ 100 := Nat.le_of_not_lt (fun h => hbig (.inr (.inr h)))
    have k1 : ¬ (100 : Int) < bn := by omega
    have k2 : ¬ (100 : Int) < hn := by omega
    rw [hg]
    clear hg hbig
    obtain ⟨⟨N, ok⟩, hq⟩ : ∃ q, Sc.nx (Cl.of L H C tn) (Cl.may L H C tn) kind f bn false = q := ⟨_, rfl⟩
    have HQ := hid hq
    clear hq
    go_wp2_with fail
    refine (next_calls kind HT.out HBy.out (by omega) HE.out false).mono ?_
    rintro e w1 ⟨rfl, b1⟩
    rw [HQ.out]
    unfold NX
    have HB1 := hid b1
    clear b1
    cases ok with
    | false =>
      go_wp2_with fail
      refine (HFix.out _ HB1.out).mono ?_
      rintro e w2 ⟨rfl, b2⟩
      have HB2 := hid b2
      clear b2
      go_wp2_with fail
      go_ret
      exact ⟨rfl, HB2.out⟩
    | true =>
      obtain ⟨hN, e2, e3⟩ := nx_stays (g := cat f bn g) (m := bn + hn) (by omega) (fun i hi => (cat_lt hi).symm) w HQ.out fin
      have HE2 := hid e2
      have HE3 := hid e3
      have k3 : (0 : Int) < N := by omega
      have HBy1 := hid (HBy.out.below HB1.out)
      have HG1 := hid (HG.out.below HB1.out)
      clear e2 e3
      go_wp2_with (at_builtin; refine wpList_append_sl rfl _ _ 23 rfl w.heap.size 5 i0 Tryd.underlying23 hi0 hz0 hz1 hz2 (.slice (some ⟨w1.heap.size, 0, none⟩) 0 0) 0 (fun _ => 0) rfl (own_empty w1.heap.size rfl HB1.out.size) ba bn bc f rfl (HBy1.out.below ((Below.refl _ w1).alloc (Nat.le_refl _) _)) (by omega) (by have := HB1.out.size; simp; omega) ?_)
      intro v2 w2 o2 g2
      rw [cat_zero] at o2
      obtain ⟨a2, c2, rfl, S2⟩ := Sl.own o2 HBy.out.bd
      have HO2 := hid o2
      have HB2 := hid ((HB1.out.alloc HB1.out.size (.cells #[] 5)).grown g2 (by have := HB1.out.size; simp; omega) (fun k hk => by simp [Value.ownBlock] at hk; have := HB1.out.size; omega))
      have HG2 := hid (HG.out.below HB2.out)
      clear o2 g2 S2
      go_wp2_with (at_builtin; refine wpList_append_sl rfl _ _ 23 rfl w.heap.size 5 i0 Tryd.underlying23 hi0 hz0 hz1 hz2 (.slice a2 bn c2) bn f rfl HO2.out ha hn hc g rfl HG2.out (by omega) HB2.out.size ?_)
      intro v3 w3 o3 g3
      obtain ⟨a3, c3, rfl, S3⟩ := Sl.own o3 (cat_bd HBy.out.bd HG.out.bd)
      have HS3 := hid S3
      have HB3 := hid (HB2.out.grown g3 HB2.out.size (fun k hk => (HO2.out.lt k hk).1))
      have T3 := hid (HT.out.below HB3.out)
      have E3 := hid (HE.out.below HB3.out (Nat.le_refl _))
      clear o3 g3 S3
      go_wp2_with fail
      refine (next_calls kind T3.out HS3.out (by omega) E3.out fin).mono ?_
      rintro e w4 ⟨rfl, b4⟩
      rw [HE2.out]
      unfold NX
      have HB4 := hid (HB3.out.trans (b4.mono HB3.out.size))
      have T4 := hid (HT.out.below HB4.out)
      have E4 := hid (HE.out.below HB4.out (Nat.le_refl _))
      have B4 := hid (HBy.out.below HB4.out)
      clear b4
      go_wp2_with fail
      refine (next_calls kind T4.out B4.out (by omega) E4.out true).mono ?_
      rintro e w5 ⟨rfl, b5⟩
      rw [HE3.out]
      unfold NX
      have HB5 := hid (HB4.out.trans (b5.mono HB4.out.size))
      clear b5
      go_wp2_with fail
      refine (HFix.out _ HB5.out).mono ?_
      rintro e w6 ⟨rfl, b6⟩
      have HB6 := hid b6
      clear b6
      go_wp2_with fail
      go_ret
      exact ⟨rfl, HB6.out⟩
end Go.Proofs.YtlomdihpdaealaaDoor
