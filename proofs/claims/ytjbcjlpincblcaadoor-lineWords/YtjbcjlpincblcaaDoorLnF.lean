/-
  The walk of fixed: the chapter's examples.
-/
import Derived.Test.YtjbcjlpincblcaaDoorLnN3
import Derived.Lib.SlBytesConst
import Derived.Lib.SmallJoins
namespace Go.Proofs.YtjbcjlpincblcaaDoor
open Go.RowKit
open Go.Lib (decDigits itoa)
set_option linter.unusedVariables false

def fAxB (i : Nat) : Int := if i = 0 then 97 else if i = 3 then 98 else 10
theorem fAxB_bd (i : Nat) : 0 ≤ fAxB i ∧ fAxB i ≤ 255 := by
  unfold fAxB
  split
  · omega
  · split <;> omega
theorem lns_AxB : lns (str fAxB 4) = [⟨#[97]⟩, ⟨#[]⟩, ⟨#[98]⟩] := by decide +kernel
theorem Sl.fourM {w : World} {x0 x1 x2 x3 : Int} (t : TypeId) (fr : Nat × Nat) (g : Nat → Int) (hg : ∀ i, 0 ≤ g i ∧ g i ≤ 255) (h0 : x0 = g 0) (h1 : x1 = g 1) (h2 : x2 = g 2) (h3 : x3 = g 3) : Sl (w.alloc (.cells #[.int .u8 x0, .int .u8 x1, .int .u8 x2, .int .u8 x3] t fr)) (some ⟨w.heap.size, 0, none⟩) 4 4 g := by
  refine ⟨Nat.le_refl _, by decide, hg, fun e => absurd e (by simp), fun _ => ⟨w.heap.size, 0, rfl, by simp, fun i hi => ?_⟩⟩
  subst h0 h1 h2 h3
  rw [World.cell?_alloc_mark]
  obtain rfl | rfl | rfl | rfl : i = 0 ∨ i = 1 ∨ i = 2 ∨ i = 3 := by omega
  all_goals rfl
def sAbbB : ByteArray := ⟨#[97, 32, 32, 98]⟩
theorem words_AbbB : Ln.words (by_ sAbbB) = [] := by decide +kernel
def s07 : ByteArray := ⟨#[48, 55]⟩
theorem num_07 : ¬ Ln.Num (bytesF s07) 2 := fun h => h.2.2.1 ⟨by omega, by decide +kernel⟩
theorem itoa_12 : mk (itoa (-12)) = ⟨#[45, 49, 50]⟩ := by
  have h := Go.Lib.itoa_neg 12 (by omega)
  rw [Ln.dec_big (by omega), Ln.dec_small (by omega)] at h
  have e : itoa (-12) = itoa (-((12 : Nat) : Int)) := rfl
  rw [e, h]
  rfl

set_option maxRecDepth 100000 in
set_option maxHeartbeats 3200000 in
theorem fixed06_calls (w : World) (ht : Tab w) : Calls Tryd.prog 7 #[] w fun e w' => e = .returned (.bool true) ∧ Below w.heap.size w w' := by
  have HT := hid ht
  clear ht
  have HD := hid (fun w => words_calls sAbbB w (by decide))
  have HN := hid (fun w => number_calls s07 2 (bytesF s07) w (by omega) (St.any s07))
  unfold sAbbB at HD
  unfold s07 at HN
  have kc := fun (w : World) (C : Array Value) (n c : Nat) => Lib.run_convert_bytes_const (P := Tryd.prog) w 22 5 C n c Tryd.underlying22 Tryd.underlying5
  go_enter Tryd.func7, Tryd.ntmps7
  go_wp2_with fail
  refine (lines_calls _ 4 4 fAxB _ (by omega) (Sl.fourM (x0 := 97) (x1 := 10) (x2 := 10) (x3 := 98) _ _ _ fAxB_bd rfl rfl rfl rfl)).mono ?_
  rintro e w1 ⟨a1, k1, c1, rfl, t1, hb1⟩
  rw [lns_AxB] at t1
  obtain rfl : 3 = k1 := t1.len
  have T1 := hid t1
  have B1 := hid (((Below.refl _ w).alloc (Nat.le_refl _) _).trans (hb1.mono (by simp)))
  have HT1 := hid (HT.out.below B1.out)
  clear t1 hb1
  go_wp2_with fail
  refine (HD.out _).mono ?_
  rintro e w2 ⟨ho, hb2⟩
  obtain rfl : e = .returned (.tuple #[.slice none 0 0, .bool false]) := by
    rcases ho with ⟨hg, _⟩ | ⟨_, rfl⟩
    · exact absurd (hg.symm.trans words_AbbB) (Ln.pcs_ne _ _ _)
    · rfl
  have T2 := hid (T1.out.below hb2)
  have B2 := hid (B1.out.trans (hb2.mono B1.out.size))
  have HT2 := hid (HT1.out.below hb2)
  clear ho hb2 HD T1 B1 HT1
  go_wp2_with fail
  refine (HN.out _).mono ?_
  rintro e w3 ⟨ho, hw3⟩
  obtain rfl : e = .returned (.tuple #[.int .i64 0, .bool false]) := by
    rcases ho with ⟨hg, _⟩ | ⟨_, rfl⟩
    · exact absurd hg num_07
    · rfl
  subst hw3
  clear ho HN
  obtain ⟨b, off, rfl, _, hc⟩ := T2.out.at' (by omega)
  have q0 : w3.cell? ⟨b, off, none⟩ = some (.string ⟨#[97]⟩) := hc 0 (by omega)
  have q1 : w3.cell? ⟨b, off + 1, none⟩ = some (.string ⟨#[]⟩) := hc 1 (by omega)
  have q2 : w3.cell? ⟨b, off + 2, none⟩ = some (.string ⟨#[98]⟩) := hc 2 (by omega)
  clear hc
  go_wp2_with fail
  refine (digits_calls (-12) (by omega) (by omega) _ HT2.out).mono ?_
  rintro e w4 ⟨rfl, hb4⟩
  rw [itoa_12]
  have B4 := hid (B2.out.trans (hb4.mono B2.out.size))
  clear hb4
  go_wp2_with fail
  go_ret
  exact ⟨rfl, B4.out⟩
end Go.Proofs.YtjbcjlpincblcaaDoor
