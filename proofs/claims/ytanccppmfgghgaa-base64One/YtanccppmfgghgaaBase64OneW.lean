/-
  The walk of the law Base64One.
-/
import Derived.Test.YtanccppmfgghgaaB6F
namespace Go.Proofs.Ytanccppmfgghgaa
open Go.RowKit
set_option linter.unusedVariables false

theorem B6.decN_le {f : Nat → Int} {n : Nat} (h : B6.Good f n) : B6.decN f n ≤ n := by
  have := (B6.enc_dec h).1
  unfold B6.encN at this
  omega

set_option maxRecDepth 100000 in
set_option maxHeartbeats 1600000 in
theorem base64One_calls (s : ByteArray) (w : World) :
    Calls Try.prog 5 #[.string s] w fun e w' => e = .returned (.bool true) ∧ Below w.heap.size w w' := by
  obtain ⟨n, hn⟩ : ∃ n, s.size = n := ⟨_, rfl⟩
  have HS := hid (St.any s)
  rw [hn] at HS
  by_cases hbig : 2000 < n
  · have hb' : (2000 : Int) < n := by omega
    go_enter Try.func5, Try.ntmps5
    go_wp2_with fail
    refine (fixed03_calls _).mono ?_
    rintro e w' ⟨rfl, hb⟩
    go_wp2_with fail
    go_ret
    exact ⟨rfl, hb⟩
  have hb' : ¬ (2000 : Int) < n := by omega
  have hn0 : (0 : Int) ≤ n := by omega
  go_enter Try.func5, Try.ntmps5
  go_wp2_with fail
  refine (b6decode_calls s n (bytesF s) _ (by omega) HS.out).mono ?_
  rintro e w1 ⟨ho, hb1⟩
  have B1 := hid hb1
  clear hb1
  rcases ho with ⟨hg, a, c, rfl, hsl⟩ | ⟨p, hp, rfl⟩
  · have HG := hid hg
    have SL := hid hsl
    have HE := hid (show str (B6.encF (B6.decF (bytesF s)) (B6.decN (bytesF s) n)) (B6.encN (B6.decN (bytesF s) n)) = s by
      obtain ⟨e1, e2⟩ := B6.enc_dec hg
      rw [e1]
      exact ((St.of (B6.encF_bd (B6.decF_bd _) _) n).congr HS.out.bd e2).inj HS.out)
    have hle := B6.decN_le hg
    clear hg hsl
    go_wp2_with fail
    refine (fixed03_calls _).mono ?_
    rintro e w2 ⟨rfl, hb2⟩
    have B2 := hid (B1.out.trans (hb2.mono B1.out.size))
    have SL2 := hid (SL.out.below hb2)
    clear hb2
    go_wp2_with fail
    refine (b6encode_calls _ _ _ _ _ (by omega) SL2.out).mono ?_
    rintro e w3 ⟨rfl, hb3⟩
    rw [HE.out]
    have B3 := hid (B2.out.trans (hb3.mono B2.out.size))
    clear hb3
    go_wp2_with fail
    go_ret
    exact ⟨rfl, B3.out⟩
  · have hpn := B6.bad_le hp
    have hp0 : (0 : Int) ≤ p := by omega
    have hp1 : (p : Int) ≤ n := by omega
    clear hp
    go_wp2_with fail
    refine (fixed03_calls _).mono ?_
    rintro e w2 ⟨rfl, hb2⟩
    have B2 := hid (B1.out.trans (hb2.mono B1.out.size))
    clear hb2
    go_wp2_with fail
    go_ret
    exact ⟨rfl, B2.out⟩
end Go.Proofs.Ytanccppmfgghgaa
