/-
  Stage 12's law ScanUsual, walked.
-/
import Derived.Test.YtlomdihpdaealaaDoorScFx
import Derived.Test.YtlomdihpdaealaaDoorScR9
import Derived.Test.YtlomdihpdaealaaDoorScStep
namespace Go.Proofs.YtlomdihpdaealaaDoor
open Go.RowKit
set_option linter.unusedVariables false
set_option maxRecDepth 100000 in
set_option maxHeartbeats 3200000 in
theorem scanUsual_calls {w : World} {ba : Option Addr} {bn bc : Nat} {f : Nat → Int} (kind : Int) (B : Sl w ba bn bc f) (fin : Bool) (hE : Ends w) :
    Calls Tryd.prog 4 #[.int .i64 kind, .slice ba bn bc, .bool fin] w fun e w' => e = .returned (.bool true) ∧ Below w.heap.size w w' := by
  have HBy := hid B
  have HE := hid hE
  have h2 := Nat.le_trans B.le B.mx
  unfold maxLen at h2
  clear B hE
  have HFix := hid (fun (w1 : World) (b : Below w.heap.size w w1) => (fixed12_calls (HE.out.below b (Nat.le_refl _))).mono (fun e w' h => (⟨h.1, b.trans (h.2.mono b.size)⟩ : e = .returned (.bool true) ∧ Below w.heap.size w w')))
  by_cases hbig : 200 < bn
  · have k1 : (200 : Int) < bn := by omega
    go_enter Tryd.func4, Tryd.ntmps4
    go_wp2_with fail
    refine (HFix.out _ (Below.refl _ _)).mono ?_
    rintro e w1 ⟨rfl, b1⟩
    have HB1 := hid b1
    clear b1
    go_wp2_with fail
    go_ret
    exact ⟨rfl, HB1.out⟩
  · have k1 : ¬ (200 : Int) < bn := by omega
    have hs : bn ≤ 100000 := by omega
    clear hbig
    obtain ⟨q, hq⟩ : ∃ q, Sc.nx (Cl.of UL UH UC 51) (Cl.may UL UH UC 51) kind f bn fin = q := ⟨_, rfl⟩
    have HQ := hid hq
    clear hq
    go_enter Tryd.func4, Tryd.ntmps4
    go_wp2_with fail
    refine (usual12_calls _).mono ?_
    rintro e w1 ⟨rfl, rfl⟩
    have bu := (Below.refl w.heap.size w).alloc (Nat.le_refl _) (.cells uCells 58)
    have R1 := hid (uRs w 58 w.heap.size rfl)
    have HB1 := hid bu
    obtain ⟨W1, hW1⟩ : ∃ W, w.alloc (.cells uCells 58) = W := ⟨_, rfl⟩
    rw [hW1] at R1 HB1 ⊢
    clear bu hW1
    have B1 := hid (HBy.out.below HB1.out)
    have E1 := hid (HE.out.below HB1.out (Nat.le_refl _))
    go_wp2_with fail
    refine (next_calls kind R1.out B1.out hs E1.out fin).mono ?_
    rintro e w2 ⟨rfl, b2⟩
    rw [HQ.out]
    unfold NX
    have HB2 := hid (HB1.out.trans (b2.mono HB1.out.size))
    have B2 := hid (HBy.out.below HB2.out)
    have HS := hid (St.of HBy.out.bd bn)
    clear b2 R1 B1 E1
    have bu2 := (Below.refl w2.heap.size w2).alloc (Nat.le_refl _) (.cells uCells 58)
    have hcv0 := run_convert_sl (P := Tryd.prog) w2.drew 23 5 9 Tryd.underlying23 Tryd.underlying5 Tryd.underlying9 B2.out.drew
    have hcv1 := run_convert_sl (P := Tryd.prog) (w2.alloc (.cells uCells 58)).drew 23 5 9 Tryd.underlying23 Tryd.underlying5 Tryd.underlying9 (B2.out.below bu2).drew
    have R3 := hid (uRs w2 58 w2.heap.size rfl)
    have HB3 := hid (HB2.out.trans (bu2.mono HB2.out.size))
    have HU := hid ((usual12_calls w2.drew).mono (fun e w' h => (⟨h.1, h.2⟩ : e = .returned (.slice (some ⟨w2.heap.size, 0, none⟩) 51 51) ∧ w' = (w2.alloc (.cells uCells 58)).drew)))
    have HNx := hid ((rnext_calls (w := (w2.alloc (.cells uCells 58)).drew) kind HS.out (R3.out.below (Below.refl _ _).drew) hs fin).mono (fun e w' h => (⟨by rw [h.1, HQ.out]; rfl, HB3.out.trans ((Below.refl _ _).drew.trans (h.2.mono HB3.out.size))⟩ : e = .returned (.tuple #[.int .i64 (q.1 : Nat), .bool q.2]) ∧ Below w.heap.size w w')))
    clear bu2
    go_wp2_with fail
    go_region_law (first
      | (refine step_call (by rfl) 13 _ _ (by rfl) #[] (by rfl) (by kernel_rfl) _ HU.out ?_; intro w3 h3; subst h3)
      | (refine step_call (by rfl) 12 _ _ (by rfl) #[.int .i64 kind, .slice (some ⟨w2.heap.size, 0, none⟩) 51 51, .string (str f bn), .bool fin] (by rfl) (by kernel_rfl) _ HNx.out ?_; intro w4 h4; have HB4 := hid h4; clear h4))
    all_goals
      clear hcv0 hcv1 HU HNx R3
      go_wp2_with fail
      refine (HFix.out _ HB4.out).mono ?_
      rintro e w5 ⟨rfl, b5⟩
      have HB5 := hid b5
      clear b5 HB4
      go_wp2_with fail
      refine (usual12_calls _).mono ?_
      rintro e w6 ⟨rfl, rfl⟩
      have bu5 := (Below.refl w5.heap.size w5).alloc (Nat.le_refl _) (.cells uCells 58)
      have R6 := hid (uRs w5 58 w5.heap.size rfl)
      have HB6 := hid (HB5.out.trans (bu5.mono HB5.out.size))
      obtain ⟨W6, hW6⟩ : ∃ W, w5.alloc (.cells uCells 58) = W := ⟨_, rfl⟩
      obtain ⟨b6, hb6⟩ : ∃ b, w5.heap.size = b := ⟨_, rfl⟩
      rw [hW6, hb6] at R6
      rw [hW6] at HB6
      rw [hW6, hb6]
      clear bu5 hW6 hb6
      go_wp2_with fail
      refine (rmay_calls _ _ _ _ _ _ _ R6.out).mono ?_
      rintro e w7 ⟨rfl, b7⟩
      rw [uMay]
      have HB7 := hid (HB6.out.trans (b7.mono HB6.out.size))
      clear b7
      go_wp2_with fail
      go_ret
      exact ⟨rfl, HB7.out⟩
end Go.Proofs.YtlomdihpdaealaaDoor
