/-
  The walk of the law UtfEncodes.
-/
import Derived.Test.YtbobdpklhhkniaaUtfE
import Derived.Test.YtbobdpklhhkniaaUtfR2
namespace Go.Proofs.Ytbobdpklhhkniaa
open Go.RowKit
set_option linter.unusedVariables false

theorem Sl.take {w : World} {a : Option Addr} {n cap : Nat} {f : Nat → Int} (h : Sl w a n cap f) (k : Nat) (hk : k ≤ n) : Sl w a k cap f :=
  ⟨Nat.le_trans hk h.le, h.mx, h.bd, fun e => ⟨by have := (h.nil e).1; omega, (h.nil e).2⟩, fun h0 => by
    obtain ⟨b, off, e, hlt, hc⟩ := h.at' (by omega)
    exact ⟨b, off, e, hlt, fun i hi => hc i (by omega)⟩⟩

set_option maxHeartbeats 1000000 in
theorem utfEncodes_no (p : Int) (a1 : Option Addr) (n1 c1 : Nat) (f1 : Nat → Int) (cut : Int) (w : World) (h1 : Sl w a1 n1 c1 f1) (hb0 : ¬ 500 < n1) (hp : Utf.isPt p = false) :
    Calls Try.prog 4 #[.int .i64 p, .slice a1 n1 c1, .int .u8 cut] w fun e w' => e = .returned (.bool true) ∧ Below w.heap.size w w' := by
  have hb0' : ¬ (500 : Int) < n1 := by omega
  have hcv := fun w => run_convert_bytes_nil (P := Try.prog) w 22 5 Try.underlying22 Try.underlying5 0 0 9 Try.underlying9
  have HP := hid hp
  clear hp h1
  go_enter Try.func4, Try.ntmps4
  go_wp2_with fail
  refine (encode_no p _ HP.out).mono ?_
  rintro e w ⟨rfl, rfl⟩
  go_wp2_with fail
  refine (refEncode_no p _ HP.out).mono ?_
  rintro e w ⟨rfl, rfl⟩
  go_wp2_with fail
  refine (fixed_calls _).mono ?_
  rintro e w' ⟨rfl, hb⟩
  go_wp2_with fail
  go_ret
  exact ⟨rfl, hb⟩

set_option maxHeartbeats 1000000 in
theorem utfEncodes_yes (p : Int) (a1 : Option Addr) (n1 c1 : Nat) (f1 : Nat → Int) (cut : Int) (w : World) (h1 : Sl w a1 n1 c1 f1) (hb0 : ¬ 500 < n1) (hp : Utf.isPt p = true) (hc0 : 0 ≤ cut) (hc1 : cut ≤ 255) :
    Calls Try.prog 4 #[.int .i64 p, .slice a1 n1 c1, .int .u8 cut] w fun e w' => e = .returned (.bool true) ∧ Below w.heap.size w w' := by
  have hb0' : ¬ (500 : Int) < n1 := by omega
  obtain ⟨i, hi, hz0, hz1, hz2⟩ := info_parts Try.info8
  have he := Utf.enc_ok hp
  have hsl : ∀ w, Sl (encW w 5 (Utf.encL p)) (some ⟨w.heap.size, 0, none⟩) (Utf.encN p) (Utf.encN p) (Utf.encF p) := fun w => encW_sl w _ hp
  have hdec : ∀ g m, Utf.encN p ≤ m → (∀ i, i < Utf.encN p → g i = Utf.encF p i) → Utf.dec g m true = (p, (Utf.encN p : Int), false) := fun g m hm hg => Utf.enc_dec hp hm hg
  have hpart : ∀ k, k < Utf.encN p → Utf.dec (Utf.encF p) k false = (-1, 0, true) := fun k hk => Utf.enc_part hp hk
  have henc := encode_yes p w hp
  have href := fun w => refEncode_yes p w hp
  have n1' := he.1
  have n4' := he.2.1
  clear he
  generalize Utf.encN p = n at *
  generalize Utf.encL p = L at *
  have q0 : 0 ≤ cut % (n : Int) := Int.emod_nonneg _ (by omega)
  have q1 : cut % (n : Int) < n := Int.emod_lt_of_pos _ (by omega)
  have HSL := hid hsl
  have HDEC := hid hdec
  have HPART := hid hpart
  have HENC := hid henc
  have HREF := hid href
  have H1 := hid h1
  clear hsl hdec hpart henc href h1
  go_enter Try.func4, Try.ntmps4
  go_wp2_with fail
  refine HENC.out.mono ?_
  rintro e w1 ⟨rfl, hw1⟩
  have bel1 : Below w.heap.size w w1 := by rw [hw1]; exact encW_below _ _ _
  have sl1 : Sl w1 (some ⟨w.heap.size, 0, none⟩) n n (Utf.encF p) := by rw [hw1]; exact HSL.out w
  have SL1 := hid sl1
  clear hw1 sl1
  go_wp2_with fail
  refine (HREF.out w1).mono ?_
  rintro e w2 ⟨rfl, hb2⟩
  have bel2 := bel1.trans (hb2.mono bel1.size)
  have SL2 := hid (SL1.out.below hb2)
  have hcv := run_convert_sl (P := Try.prog) w2 22 5 9 Try.underlying22 Try.underlying5 Try.underlying9 SL2.out
  go_wp2_with (first
    | (at_builtin; refine wpList_append_sl (f := f1) rfl _ _ 22 rfl w2.heap.size 5 i Try.underlying22 hi hz0 hz1 hz2 (.slice (some ⟨w2.heap.size, 0, none⟩) 0 0) 0 rfl (World.ownsRow_lit w2 #[] 0 (Nat.le_refl _) (by decide) rfl) (some ⟨w.heap.size, 0, none⟩) n n (Utf.encF p) rfl (SL2.out.below ((Below.refl _ _).alloc (Nat.le_refl _) _)) (by omega) (by simp) ?_; intro v3 w3 ho3 hg3; rw [cat_zero] at ho3; have bel3 : Below w2.heap.size w2 w3 := ((Below.refl _ _).alloc (Nat.le_refl _) _).grown hg3 (by simp) (fun k hk => by simp [Value.ownBlock] at hk; omega))
    | (at_builtin; refine wpList_append_sl rfl _ _ 22 rfl w2.heap.size 5 i Try.underlying22 hi hz0 hz1 hz2 v3 _ _ rfl ho3 a1 n1 c1 f1 rfl ((H1.out.below bel2).below bel3) (by omega) bel3.size ?_))
  intro v4 w4 ho4 hg4
  have bel4 : Below w2.heap.size w2 w4 := bel3.grown hg4 bel3.size (fun k hk => (ho3.lt k hk).1)
  obtain ⟨a4, c4, hv, hsl4⟩ := Sl.own ho4 (cat_bd SL2.out.bd H1.out.bd)
  subst hv
  go_wp2_with fail
  refine (decode_calls a4 _ c4 _ true _ hsl4).mono ?_
  rintro e w4 ⟨rfl, rfl⟩
  rw [HDEC.out _ _ (by omega) (fun i hi => cat_lt (by omega))]
  unfold D3
  go_wp2_with fail
  refine (decode_calls _ (cut % (n : Int)).toNat n _ false _ ((SL2.out.below bel4).take _ (by omega))).mono ?_
  rintro e w4 ⟨rfl, rfl⟩
  rw [HPART.out _ (by omega)]
  unfold D3
  go_wp2_with fail
  refine (fixed_calls _).mono ?_
  rintro e w5 ⟨rfl, hb5⟩
  go_wp2_with fail
  go_ret
  exact ⟨rfl, bel2.trans ((bel4.mono bel2.size).trans (hb5.mono (Nat.le_trans bel2.size bel4.size)))⟩

set_option maxHeartbeats 1000000 in
theorem utfEncodes_calls (p : Int) (a1 : Option Addr) (n1 c1 : Nat) (f1 : Nat → Int) (cut : Int) (w : World) (h1 : Sl w a1 n1 c1 f1) (hc0 : 0 ≤ cut) (hc1 : cut ≤ 255) :
    Calls Try.prog 4 #[.int .i64 p, .slice a1 n1 c1, .int .u8 cut] w fun e w' => e = .returned (.bool true) ∧ Below w.heap.size w w' := by
  by_cases hb0 : 500 < n1
  · have hb0' : (500 : Int) < n1 := by omega
    clear h1
    go_enter Try.func4, Try.ntmps4
    go_wp2_with fail
    refine (fixed_calls _).mono ?_
    rintro e w' ⟨rfl, hb⟩
    go_wp2_with fail
    go_ret
    exact ⟨rfl, hb⟩
  · cases hp : Utf.isPt p
    · exact utfEncodes_no p a1 n1 c1 f1 cut w h1 hb0 hp
    · exact utfEncodes_yes p a1 n1 c1 f1 cut w h1 hb0 hp hc0 hc1
end Go.Proofs.Ytbobdpklhhkniaa
