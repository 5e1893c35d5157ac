/-
  Stage 12's law ScanOpen, walked.
-/
import Derived.Test.YtlomdihpdaealaaDoorScFx
import Derived.Test.YtlomdihpdaealaaDoorScStep
namespace Go.Proofs.YtlomdihpdaealaaDoor
open Go.RowKit
set_option linter.unusedVariables false
/-- The signs that are put behind. -/
def opX : Nat → Int
  | 0 => 97
  | 1 => 101
  | 2 => 108
  | 3 => 49
  | 4 => 33
  | 5 => 32
  | _ => 10
def opS : Nat → ByteArray
  | 0 => ⟨#[97]⟩
  | 1 => ⟨#[101]⟩
  | 2 => ⟨#[108]⟩
  | 3 => ⟨#[49]⟩
  | 4 => ⟨#[33]⟩
  | 5 => ⟨#[32]⟩
  | _ => ⟨#[10]⟩
def opCells : Array Value := #[.string ⟨#[97]⟩, .string ⟨#[101]⟩, .string ⟨#[108]⟩, .string ⟨#[49]⟩, .string ⟨#[33]⟩, .string ⟨#[32]⟩, .string ⟨#[10]⟩]
theorem op_cell {w : World} {B : Nat} {t : TypeId} (h : w.heap[B]? = some (.cells opCells t (0, 0))) {j : Nat} (hj : j < 7) : w.cell? ⟨B, j, none⟩ = some (.string (opS j)) := by
  simp only [World.cell?, h]
  have hc : j = 0 ∨ j = 1 ∨ j = 2 ∨ j = 3 ∨ j = 4 ∨ j = 5 ∨ j = 6 := by omega
  rcases hc with rfl | rfl | rfl | rfl | rfl | rfl | rfl <;> rfl
theorem op_bd (j : Nat) : 0 ≤ opX j ∧ opX j ≤ 255 := by
  match j with
  | 0 => exact (by decide)
  | 1 => exact (by decide)
  | 2 => exact (by decide)
  | 3 => exact (by decide)
  | 4 => exact (by decide)
  | 5 => exact (by decide)
  | n + 6 => exact (show 0 ≤ (10 : Int) ∧ (10 : Int) ≤ 255 by decide)
theorem op_st (j : Nat) : St (opS j) 1 (fun _ => opX j) := by
  have key : ∀ (b : UInt8) (x : Int), (b.toNat : Int) = x → 0 ≤ x ∧ x ≤ 255 → St ⟨#[b]⟩ 1 (fun _ => x) := fun b x hb hx => ⟨rfl, fun i hi => by
    obtain rfl : i = 0 := by have h : i < 1 := hi; omega
    exact hb, fun _ => hx⟩
  match j with
  | 0 => exact key 97 97 rfl (by decide)
  | 1 => exact key 101 101 rfl (by decide)
  | 2 => exact key 108 108 rfl (by decide)
  | 3 => exact key 49 49 rfl (by decide)
  | 4 => exact key 33 33 rfl (by decide)
  | 5 => exact key 32 32 rfl (by decide)
  | n + 6 => exact key 10 10 rfl (by decide)
/-- Bytes with a sign behind. -/
def opF (f : Nat → Int) (n j : Nat) : Nat → Int := cat f n (fun _ => opX j)
/-- One of the signs makes another piece. -/
theorem op_some (w : World) {kind n N : Nat} {f : Nat → Int} (hk : kind ≤ 3) (hn : 0 < n) (hr : Utf.rest f n = 0) (h : Sc.nx (Cl.of UL UH UC 51) (Cl.may UL UH UC 51) (kind : Int) f n false = (N, false)) :
    ∃ j, j < 7 ∧ ∃ m, Sc.nx (Cl.of UL UH UC 51) (Cl.may UL UH UC 51) (kind : Int) (opF f n j) (n + 1) true = (m, true) ∧ m ≠ N := by
  have hno : ¬ (n = 0 ∨ Cl.may UL UH UC 51 = false) := fun e => e.elim (by omega) (fun e => by rw [uMay] at e; cases e)
  have hno1 : ¬ (n + 1 = 0 ∨ Cl.may UL UH UC 51 = false) := fun e => e.elim (by omega) (fun e => by rw [uMay] at e; cases e)
  by_cases h0 : kind = 0
  · subst h0
    have e := h
    rw [show (((0 : Nat) : Int)) = 0 from rfl, Sc.nx_zero hno] at e
    refine ⟨0, by omega, n + 1, Sc.nx_zero hno1, ?_⟩
    have := (Prod.mk.inj e).1
    omega
  · have hk' : kind = 1 ∨ kind = 2 ∨ kind = 3 := by omega
    rw [Sc.nx_kind hno hk'] at h
    obtain ⟨hN, hd⟩ := Prod.mk.inj h
    rw [Bool.false_or] at hd
    have hu : ¬ Sc.Dec ucl kind (Sc.sure f n) (Utf.pts f n) := fun e => by
      have := Sc.decB_iff.2 e
      rw [show Sc.decB ucl kind (Sc.sure f n) (Utf.pts f n) = false from hd] at this
      cases this
    obtain ⟨x, hx, hg⟩ := Sc.open_bytes (uUs w) hk' hn hr hu
    have hj : ∃ j, j < 7 ∧ opX j = x := by
      rcases hx with rfl | rfl | rfl | rfl | rfl | rfl | rfl
      · exact ⟨0, by omega, rfl⟩
      · exact ⟨1, by omega, rfl⟩
      · exact ⟨2, by omega, rfl⟩
      · exact ⟨3, by omega, rfl⟩
      · exact ⟨4, by omega, rfl⟩
      · exact ⟨5, by omega, rfl⟩
      · exact ⟨6, by omega, rfl⟩
    obtain ⟨j, hj, rfl⟩ := hj
    refine ⟨j, hj, Sc.next ucl kind (opF f n j) (n + 1), ?_, ?_⟩
    · rw [Sc.nx_kind hno1 hk', Bool.true_or]; rfl
    · rw [← hN]
      exact hg (opF f n j) (fun i hi => (cat_lt hi).symm) (by unfold opF; rw [cat_ge (Nat.le_refl _)])
theorem nx_true {kind : Nat} (hk : kind ≤ 3) {f : Nat → Int} {n : Nat} (hn : 0 < n) : ∃ m, Sc.nx (Cl.of UL UH UC 51) (Cl.may UL UH UC 51) (kind : Int) f n true = (m, true) := by
  have hno : ¬ (n = 0 ∨ Cl.may UL UH UC 51 = false) := fun e => e.elim (by omega) (fun e => by rw [uMay] at e; cases e)
  by_cases h0 : kind = 0
  · subst h0; exact ⟨n, Sc.nx_zero hno⟩
  · exact ⟨_, by rw [Sc.nx_kind hno (by omega), Bool.true_or]⟩
set_option maxRecDepth 100000 in
set_option maxHeartbeats 6400000 in
theorem scanOpen_calls {w : World} {ba : Option Addr} {bn bc : Nat} {f : Nat → Int} (kind : Int) (B : Sl w ba bn bc f) (hE : Ends w) :
    Calls Tryd.prog 6 #[.int .i64 kind, .slice ba bn bc] w fun e w' => e = .returned (.bool true) ∧ Below w.heap.size w w' := by
  have HBy := hid B
  have HE := hid hE
  have h2 := Nat.le_trans B.le B.mx
  unfold maxLen at h2
  clear B hE
  have HFix := hid (fun (w1 : World) (b : Below w.heap.size w w1) => (fixed12_calls (HE.out.below b (Nat.le_refl _))).mono (fun e w' h => (⟨h.1, b.trans (h.2.mono b.size)⟩ : e = .returned (.bool true) ∧ Below w.heap.size w w')))
  go_enter Tryd.func6, Tryd.ntmps6
  by_cases hbig : 100 < bn
  · have k1 : (100 : Int) < bn := by omega
    go_wp2_with fail
    refine (HFix.out _ (Below.refl _ _)).mono ?_
    rintro e w1 ⟨rfl, b1⟩
    have HB1 := hid b1
    clear b1
    go_wp2_with fail
    go_ret
    exact ⟨rfl, HB1.out⟩
  have k1 : ¬ (100 : Int) < bn := by omega
  by_cases hb0 : bn = 0
  · subst hb0
    go_wp2_with fail
    refine (HFix.out _ (Below.refl _ _)).mono ?_
    rintro e w1 ⟨rfl, b1⟩
    have HB1 := hid b1
    clear b1
    go_wp2_with fail
    go_ret
    exact ⟨rfl, HB1.out⟩
  have k0 : ((bn : Int) == 0) = false := by rw [beq_eq_false_iff_ne]; omega
  by_cases hk0 : kind < 0
  · go_wp2_with fail
    refine (HFix.out _ (Below.refl _ _)).mono ?_
    rintro e w1 ⟨rfl, b1⟩
    have HB1 := hid b1
    clear b1
    go_wp2_with fail
    go_ret
    exact ⟨rfl, HB1.out⟩
  by_cases hk3 : 3 < kind
  · go_wp2_with fail
    refine (HFix.out _ (Below.refl _ _)).mono ?_
    rintro e w1 ⟨rfl, b1⟩
    have HB1 := hid b1
    clear b1
    go_wp2_with fail
    go_ret
    exact ⟨rfl, HB1.out⟩
  obtain ⟨kd, rfl, hkd⟩ : ∃ k : Nat, kind = k ∧ k ≤ 3 := ⟨kind.toNat, by omega, by omega⟩
  have HKd := hid hkd
  have hs : bn ≤ 100 := by omega
  have hs0 : 0 < bn := by omega
  clear hbig hkd hb0
  have hcv := run_convert_sl (P := Tryd.prog) w 23 5 9 Tryd.underlying23 Tryd.underlying5 Tryd.underlying9 HBy.out
  have HSt := hid (St.of HBy.out.bd bn)
  obtain ⟨K, hK⟩ : ∃ K, Utf.rest f bn = K := ⟨_, rfl⟩
  have HK := hid hK
  clear hK
  go_wp2_with fail
  refine (refRest_calls _ bn f _ HSt.out (by omega)).mono ?_
  rintro e w1 ⟨rfl, b1⟩
  rw [HK.out]
  have HB1 := hid b1
  clear b1 hcv
  by_cases hKp : 0 < K
  · have j1 : (0 : Int) < K := by omega
    go_wp2_with fail
    refine (HFix.out _ HB1.out).mono ?_
    rintro e w2 ⟨rfl, b2⟩
    have HB2 := hid b2
    clear b2
    go_wp2_with fail
    go_ret
    exact ⟨rfl, HB2.out⟩
  have j1 : ¬ (0 : Int) < K := by omega
  have HK0 := hid (show Utf.rest f bn = 0 by rw [HK.out]; omega)
  clear hKp
  go_wp2_with fail
  refine (usual12_calls _).mono ?_
  rintro e w2 ⟨rfl, rfl⟩
  have bu := (Below.refl w1.heap.size w1).alloc (Nat.le_refl _) (.cells uCells 58)
  have R1 := hid (uRs w1 58 w1.heap.size rfl)
  have HB2 := hid (HB1.out.trans (bu.mono HB1.out.size))
  obtain ⟨W2, hW2⟩ : ∃ W, w1.alloc (.cells uCells 58) = W := ⟨_, rfl⟩
  obtain ⟨T0, hT0⟩ : ∃ T, w1.heap.size = T := ⟨_, rfl⟩
  rw [hW2] at R1 HB2 ⊢
  rw [hT0] at R1 ⊢
  clear bu hW2 hT0
  have HE2 := hid (HE.out.below HB2.out (Nat.le_refl _))
  have B2 := hid (HBy.out.below HB2.out)
  obtain ⟨⟨N, ok⟩, hq⟩ : ∃ q, Sc.nx (Cl.of UL UH UC 51) (Cl.may UL UH UC 51) (kd : Int) f bn false = q := ⟨_, rfl⟩
  have HQ := hid hq
  clear hq
  go_wp2_with fail
  refine (next_calls (kd : Int) R1.out B2.out (by omega) HE2.out false).mono ?_
  rintro e w3 ⟨rfl, b3⟩
  rw [HQ.out]
  unfold NX
  have HB3 := hid (HB2.out.trans (b3.mono HB2.out.size))
  clear b3 R1 HE2 B2
  cases ok with
  | true =>
    go_wp2_with fail
    refine (HFix.out _ HB3.out).mono ?_
    rintro e w4 ⟨rfl, b4⟩
    have HB4 := hid b4
    clear b4
    go_wp2_with fail
    go_ret
    exact ⟨rfl, HB4.out⟩
  | false =>
    have HX := hid (op_some w HKd.out hs0 HK0.out HQ.out)
    have bl := (Below.refl w3.heap.size w3).alloc (Nat.le_refl _) (.cells opCells 9)
    have HB4 := hid (HB3.out.trans (bl.mono HB3.out.size))
    have RW := hid (heap_alloc_new w3 (Obj.cells opCells 9))
    clear bl
    go_wp2_with fail
    obtain ⟨W4, hW4⟩ : ∃ W, w3.alloc (.cells opCells 9) = W := ⟨_, rfl⟩
    have hW4' : w3.alloc (.cells #[.string ⟨#[97]⟩, .string ⟨#[101]⟩, .string ⟨#[108]⟩, .string ⟨#[49]⟩, .string ⟨#[33]⟩, .string ⟨#[32]⟩, .string ⟨#[10]⟩] 9) = W4 := hW4
    obtain ⟨R0, hR0⟩ : ∃ R, w3.heap.size = R := ⟨_, rfl⟩
    rw [hW4] at HB4 RW
    rw [hR0] at RW
    rw [hW4', hR0]
    clear hW4 hW4' hR0
    go_loopg [45] 7 (fun r jv wr => ∃ j : Nat, r = 7 - j ∧ jv = .int .i64 (j : Int) ∧ j ≤ 7 ∧ Hid (∀ i, i < j → ∀ m, Sc.nx (Cl.of UL UH UC 51) (Cl.may UL UH UC 51) (kd : Int) (opF f bn i) (bn + 1) true = (m, true) → m = N) ∧ Hid (wr.heap[R0]? = some (.cells opCells 9 (0, 0))) ∧ Hid (Below w.heap.size w wr))
    case atStart => exact ⟨0, rfl, rfl, by omega, hid (fun i hi => by omega), RW, HB4⟩
    case round =>
      obtain ⟨j, rfl, rfl, hj, HT, HR, HB⟩ := hrel
      have j0 : (0 : Int) ≤ j := by omega
      have e2 : IntKind.i64.wrap ((j : Int) + 1) = j + 1 := i64_in (by omega) (by omega)
      by_cases hlt : j < 7
      · have k7 : (j : Int) < 7 := by omega
        have p0 := op_cell HR.out hlt
        have HSj := hid (op_st j)
        have HJ := hid hlt
        obtain ⟨S, hS⟩ : ∃ S, opS j = S := ⟨_, rfl⟩
        rw [hS] at p0 HSj
        have hz1 := HSt.out.size
        have hz2 := HSj.out.size
        have hadd : ¬ 9223372036854775807 < bn + 1 := by omega
        have HSS := hid (show St (str f bn ++ S) (bn + 1) (opF f bn j) from HSt.out.append HSj.out)
        clear hS hlt
        have Bw := HBy.out.below HB.out
        have bu := (Below.refl wr.heap.size wr).alloc (Nat.le_refl _) (.cells uCells 58)
        have hcv0 := run_convert_sl (P := Tryd.prog) wr.drew 23 5 9 Tryd.underlying23 Tryd.underlying5 Tryd.underlying9 Bw.drew
        have hcv1 := run_convert_sl (P := Tryd.prog) (wr.alloc (.cells uCells 58)).drew 23 5 9 Tryd.underlying23 Tryd.underlying5 Tryd.underlying9 (Bw.below bu).drew
        have HU0 := hid ((usual12_calls wr.drew).mono (fun e w' h => (⟨h.1, h.2⟩ : e = .returned (.slice (some ⟨wr.heap.size, 0, none⟩) 51 51) ∧ w' = (wr.alloc (.cells uCells 58)).drew)))
        obtain ⟨cA, WA, hA, SA, bA, zA⟩ := conv_bytes (P := Tryd.prog) (wr.alloc (.cells uCells 58)).drew 9 23 5 Tryd.underlying9 Tryd.underlying23 Tryd.underlying5 HSS.out (by unfold maxLen; omega)
        obtain ⟨cB, WB, hB, SB, bB, zB⟩ := conv_bytes (P := Tryd.prog) wr.drew 9 23 5 Tryd.underlying9 Tryd.underlying23 Tryd.underlying5 HSS.out (by unfold maxLen; omega)
        have bWA : Below wr.heap.size wr WA := bu.drew.trans (bA.mono (by show wr.heap.size ≤ (wr.alloc _).heap.size; simp))
        have bWB : Below wr.heap.size wr WB := (Below.refl _ wr).drew.trans bB
        have bUB := (Below.refl WB.heap.size WB).alloc (Nat.le_refl _) (.cells uCells 58)
        have HUB := hid ((usual12_calls WB).mono (fun e w' h => (⟨h.1, h.2⟩ : e = .returned (.slice (some ⟨WB.heap.size, 0, none⟩) 51 51) ∧ w' = WB.alloc (.cells uCells 58))))
        have hsA : (wr.alloc (.cells uCells 58)).drew.heap.size = wr.heap.size + 1 := by show (wr.alloc _).heap.size = _; simp
        have hsB : wr.drew.heap.size = wr.heap.size := rfl
        rw [hsA] at hA SA
        rw [hsB] at hB SB
        have RA := (uRs wr 58 wr.heap.size rfl).below (w' := WA) ⟨bA.os, bA.tape, bA.output, bA.size, bA.block⟩
        have RB := uRs WB 58 WB.heap.size rfl
        have EA := HE.out.below (HB.out.trans (bWA.mono HB.out.size)) (Nat.le_refl _)
        have EB := HE.out.below (HB.out.trans ((bWB.trans (bUB.mono bWB.size)).mono HB.out.size)) (Nat.le_refl _)
        obtain ⟨m, hm⟩ := nx_true HKd.out (f := opF f bn j) (n := bn + 1) (by omega)
        have HM := hid hm
        have HNA := hid ((next_calls (kd : Int) RA SA (by omega) EA true).mono (fun e w' h => (⟨by rw [h.1, HM.out]; rfl, bWA.trans (h.2.mono bWA.size)⟩ : e = .returned (.tuple #[.int .i64 (m : Nat), .bool true]) ∧ Below wr.heap.size wr w')))
        have HNB := hid ((next_calls (kd : Int) RB (SB.below bUB) (by omega) EB true).mono (fun e w' h => (⟨by rw [h.1, HM.out]; rfl, bWB.trans ((bUB.trans (h.2.mono bUB.size)).mono bWB.size)⟩ : e = .returned (.tuple #[.int .i64 (m : Nat), .bool true]) ∧ Below wr.heap.size wr w')))
        clear Bw bu bA SA zA bB SB zB bWA bWB bUB hsA hsB RA RB EA EB hm
        go_wp2_with fail
        go_region_law (first
          | (refine step_call (by rfl) 13 _ _ (by rfl) #[] (by rfl) (by kernel_rfl) _ HU0.out ?_; intro w3 h3; subst h3)
          | (refine step_call (by rfl) 13 _ _ (by rfl) #[] (by rfl) (by kernel_rfl) _ HUB.out ?_; intro w3 h3; subst h3)
          | (refine step_call (by rfl) 11 _ _ (by rfl) #[.int .i64 (kd : Int), .slice (some ⟨wr.heap.size, 0, none⟩) 51 51, .slice (some ⟨wr.heap.size + 1, 0, none⟩) (bn + 1) cA, .bool true] (by rfl) (by kernel_rfl) _ HNA.out ?_; intro w4 h4; have HB5 := hid h4; clear h4)
          | (refine step_call (by rfl) 11 _ _ (by rfl) #[.int .i64 (kd : Int), .slice (some ⟨WB.heap.size, 0, none⟩) 51 51, .slice (some ⟨wr.heap.size, 0, none⟩) (bn + 1) cB, .bool true] (by rfl) (by kernel_rfl) _ HNB.out ?_; intro w4 h4; have HB5 := hid h4; clear h4))
        all_goals
          clear HNA HNB HU0 HUB hcv0 hcv1 hA hB
          have HR5 := hid ((HB5.out.block _ (Array.getElem?_eq_some_iff.1 HR.out).1).trans HR.out)
          have HB6 := hid (HB.out.trans (HB5.out.mono HB.out.size))
          clear p0
          by_cases hmN : m = N
          · have t0 : ((m : Int) != N) = false := by simp [hmN]
            have HT2 := hid (show ∀ i, i < j + 1 → ∀ m, Sc.nx (Cl.of UL UH UC 51) (Cl.may UL UH UC 51) (kd : Int) (opF f bn i) (bn + 1) true = (m, true) → m = N from fun i hi m' hm' => by
              rcases Nat.lt_succ_iff_lt_or_eq.1 hi with h | rfl
              · exact HT.out i h m' hm'
              · rw [HM.out] at hm'
                rw [← (Prod.mk.inj hm').1, hmN])
            clear hmN HT HB5
            go_wp2_with fail
            go_roundg (7 - (j + 1))
            case measure => have := HJ.out; omega
            case rel => exact ⟨j + 1, rfl, by go_num, by have := HJ.out; omega, HT2, HR5, HB6⟩
          · have t0 : ((m : Int) != N) = true := by simp; omega
            clear hmN HT HB5
            go_wp2_with fail
            refine (HFix.out _ HB6.out).mono ?_
            rintro e w5 ⟨rfl, b5⟩
            have HB7 := hid b5
            clear b5
            go_wp2_with fail
            go_ret
            exact ⟨rfl, HB7.out⟩
      · exfalso
        obtain ⟨i, hi, m, hm, hne⟩ := HX.out
        exact hne (HT.out i (by omega) m hm)
end Go.Proofs.YtlomdihpdaealaaDoor
