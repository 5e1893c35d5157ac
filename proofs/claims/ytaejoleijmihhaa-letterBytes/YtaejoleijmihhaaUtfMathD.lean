/-
  There and back: a code point's bytes are decoded to it, whatever stands behind; a part of them needs more.
-/
import Derived.Test.YtaejoleijmihhaaUtfMathC
namespace Go.Proofs.Ytaejoleijmihhaa.Utf

theorem enc_ok {p : Int} (h : isPt p = true) : 1 ≤ encN p ∧ encN p ≤ 4 ∧ sizeOf (encF p 0) = encN p ∧ (∀ j, 1 ≤ j → j < encN p → okAt (encF p) j) ∧ jn (p0 (encN p) (encF p 0)) (encF p) (encN p - 1) = p ∧ (encL p).length = encN p := by
  have hp := (isPt_iff p).1 h
  have l := lo2_eq (encF p 0)
  have k := hi2_eq (encF p 0)
  by_cases a : p < 128
  · have e := enc_1 a
    have e0 : encF p 0 = p := by unfold encF; rw [e.2]; rfl
    rw [e.1]
    refine ⟨by omega, by omega, by rw [e0]; exact sizeOf_1 a, fun j a b => absurd b (by omega), ?_, by rw [e.2]; rfl⟩
    simp [p0, jn, e0]
  by_cases b : p < 2048
  · have e := enc_2 (by omega) b
    have e0 : encF p 0 = 192 + p / 64 := by unfold encF; rw [e.2]; rfl
    have e1 : encF p 1 = 128 + p % 64 := by unfold encF; rw [e.2]; rfl
    rw [e.1]
    refine ⟨by omega, by omega, sizeOf_2 (by omega) (by omega), (ok_all (by omega)).2 ⟨by omega, fun j a b => absurd b (by omega)⟩, ?_, by rw [e.2]; rfl⟩
    show 64 * (encF p 0 % 32) + encF p 1 % 64 = p
    omega
  by_cases c : p < 65536
  · have e := enc_3 (by omega) c
    have e0 : encF p 0 = 224 + p / 4096 := by unfold encF; rw [e.2]; rfl
    have e1 : encF p 1 = 128 + p / 64 % 64 := by unfold encF; rw [e.2]; rfl
    have e2 : encF p 2 = 128 + p % 64 := by unfold encF; rw [e.2]; rfl
    rw [e.1]
    refine ⟨by omega, by omega, sizeOf_3 (by omega) (by omega), (ok_all (by omega)).2 ⟨by omega, fun j a b => ?_⟩, ?_, by rw [e.2]; rfl⟩
    · obtain rfl : j = 2 := by omega
      unfold tail; omega
    · show 64 * (64 * (encF p 0 % 16) + encF p 1 % 64) + encF p 2 % 64 = p
      omega
  · have e := enc_4 (p := p) (by omega)
    have e0 : encF p 0 = 240 + p / 262144 := by unfold encF; rw [e.2]; rfl
    have e1 : encF p 1 = 128 + p / 4096 % 64 := by unfold encF; rw [e.2]; rfl
    have e2 : encF p 2 = 128 + p / 64 % 64 := by unfold encF; rw [e.2]; rfl
    have e3 : encF p 3 = 128 + p % 64 := by unfold encF; rw [e.2]; rfl
    rw [e.1]
    refine ⟨by omega, by omega, sizeOf_4 (by omega) (by omega), (ok_all (by omega)).2 ⟨by omega, fun j a b => ?_⟩, ?_, by rw [e.2]; rfl⟩
    · obtain rfl | rfl : j = 2 ∨ j = 3 := by omega
      all_goals (unfold tail; omega)
    · show 64 * (64 * (64 * (encF p 0 % 8) + encF p 1 % 64) + encF p 2 % 64) + encF p 3 % 64 = p
      omega

theorem enc_dec {p : Int} {g : Nat → Int} {m : Nat} {fin : Bool} (h : isPt p = true) (hm : encN p ≤ m) (hg : ∀ i, i < encN p → g i = encF p i) : dec g m fin = (p, (encN p : Int), false) := by
  obtain ⟨h1, h4, hs, hok, hj, _⟩ := enc_ok h
  have e0 := hg 0 (by omega)
  have := (dec_full (f := g) (fin := fin) h1 h4 hm (by rw [e0]; exact hs)).1 (fun j a b => (okAt_congr (fun i hi => (hg i hi).symm) b).1 (hok j a b))
  rw [this, e0, jn_congr (g := encF p) hg _ (by omega), hj]
theorem enc_part {p : Int} {k : Nat} (h : isPt p = true) (hk : k < encN p) : dec (encF p) k false = (-1, 0, true) := by
  obtain ⟨h1, h4, hs, hok, _⟩ := enc_ok h
  by_cases h0 : k = 0
  · subst h0; simp [dec]
  · exact (dec_part (by omega) h4 hk hs).1 (fun j a b => hok j a (by omega))

end Go.Proofs.Ytaejoleijmihhaa.Utf
