/-
  The chapter's example, in plain mathematics: the 256 bytes and "ab" make a vocabulary of one merge. No program is named here.
-/
import Derived.Test.YtfgbpjajkmfkoaaVcMathB
namespace Go.Proofs.Ytfgbpjajkmfkoaa
open Go.RowKit
namespace Vc
/-- The rows of the first bytes. -/
def bR (n : Nat) : Sps := (List.range n).map (fun b => (one b, (b : Int)))
def ab : ByteArray := mk [97, 98]
def fixR : Sps := bR 256 ++ [(ab, 256)]
def fixT : Toks := (List.range 256).map one ++ [ab]
theorem bR_succ (n : Nat) : bR (n + 1) = bR n ++ [(one n, (n : Int))] := by simp [bR, List.range_succ]
theorem bR_len (n : Nat) : (bR n).length = n := by simp [bR]
theorem fixR_len : fixR.length = 257 := by simp [fixR, bR_len]
theorem fixT_len : fixT.length = 257 := by simp [fixT]
theorem fixR_lo {i : Nat} (h : i < 256) : tat fixR i = one i ∧ kat fixR i = i := by
  have h1 : fixR[i]? = some (one i, (i : Int)) := by
    unfold fixR
    rw [List.getElem?_append_left (by rw [bR_len]; exact h)]
    simp [bR, h]
  simp [tat, kat, List.getD_eq_getElem?_getD, h1]
theorem fixR_hi : tat fixR 256 = ab ∧ kat fixR 256 = 256 := by
  have h1 : fixR[256]? = some (ab, 256) := by
    unfold fixR
    rw [List.getElem?_append_right (by rw [bR_len]; omega), bR_len]
    rfl
  simp [tat, kat, List.getD_eq_getElem?_getD, h1]
theorem fixT_lo {i : Nat} (h : i < 256) : at_ fixT i = one i := by
  have h1 : fixT[i]? = some (one i) := by
    unfold fixT
    rw [List.getElem?_append_left (by simpa using h)]
    simp [h]
  simp [at_, List.getD_eq_getElem?_getD, h1]
theorem fixT_hi : at_ fixT 256 = ab := by
  have h1 : fixT[256]? = some ab := by
    unfold fixT
    rw [List.getElem?_append_right (by simp)]
    simp
  simp [at_, List.getD_eq_getElem?_getD, h1]
theorem one_sz (b : Nat) : (one b).size = 1 := rfl
theorem ab_sz : ab.size = 2 := rfl
theorem one_inj {i j : Nat} (hi : i < 256) (hj : j < 256) (h : one i = one j) : i = j := by
  have h1 := mk_inj h
  simp only [List.cons.injEq, and_true] at h1
  have h2 := congrArg UInt8.toNat h1
  simp only [UInt8.toNat_ofNat'] at h2
  omega
theorem fix_mayT : MayT fixT where
  len := by rw [fixT_len]; omega
  sz := fun i hi => by
    rw [fixT_len] at hi
    by_cases h : i < 256
    · rw [fixT_lo h, one_sz]; omega
    · obtain rfl : i = 256 := by omega
      rw [fixT_hi, ab_sz]; omega
  apart := fun i j hi hj _ he => by
    rw [fixT_len] at hi hj
    by_cases h : i < 256
    · by_cases k : j < 256
      · rw [fixT_lo h, fixT_lo k] at he
        exact one_inj h k he
      · obtain rfl : j = 256 := by omega
        rw [fixT_lo h, fixT_hi] at he
        have := congrArg ByteArray.size he
        rw [one_sz, ab_sz] at this
        omega
    · obtain rfl : i = 256 := by omega
      by_cases k : j < 256
      · rw [fixT_lo k, fixT_hi] at he
        have := congrArg ByteArray.size he
        rw [one_sz, ab_sz] at this
        omega
      · omega
  all := fun b hb => ⟨b, by rw [fixT_len]; omega, fixT_lo hb⟩
/-- The number of a token that is there. -/
theorem num_at {ts : Toks} (h : MayT ts) {i : Nat} (hi : i < ts.length) (hz : (at_ ts i).size ≠ 0) : num ts (at_ ts i) = some i := by
  obtain ⟨k, hk, _⟩ := lastOf_has (ts := ts) hi hz
  obtain ⟨h1, h2, _⟩ := lastOf_some hk
  unfold num
  rw [hk, h.apart i k hi h1 hz h2.symm]
theorem num_some {ts : Toks} {s : ByteArray} {k : Nat} (h : num ts s = some k) : k < ts.length ∧ at_ ts k = s ∧ s.size ≠ 0 := lastOf_some h
theorem fix_cuts : cutsL fixT 257 = [((97 : Int), (98 : Int), (256 : Int), (256 : Int))] := by
  have h0 : ∀ n, n ≤ 256 → cutsL fixT n = [] := by
    intro n
    induction n with
    | zero => intro _; rfl
    | succ n ih =>
      intro h
      rw [cutsL, ih (by omega), fixT_lo (show n < 256 by omega), one_sz]
      rfl
  rw [cutsL, h0 256 (Nat.le_refl _), fixT_hi, ab_sz]
  show [] ++ ([] ++ cutAt fixT 256 1) = _
  unfold cutAt
  rw [fixT_hi, ab_sz]
  have e1 : ab.extract 0 1 = one 97 := by apply by_inj; rw [by_extract]; rfl
  have e2 : ab.extract 1 2 = one 98 := by apply by_inj; rw [by_extract]; rfl
  have n1 := num_at fix_mayT (i := 97) (by rw [fixT_len]; omega) (by rw [fixT_lo (by omega), one_sz]; omega)
  have n2 := num_at fix_mayT (i := 98) (by rw [fixT_len]; omega) (by rw [fixT_lo (by omega), one_sz]; omega)
  rw [fixT_lo (by omega)] at n1 n2
  rw [e1, e2, n1, n2]
  rfl
theorem fix_is {i : Nat} (h : i < 257) : Is fixT (i : Int) := by
  refine ⟨by omega, by rw [fixT_len]; omega, ?_⟩
  rw [Int.toNat_natCast]
  by_cases k : i < 256
  · rw [fixT_lo k, one_sz]; omega
  · obtain rfl : i = 256 := by omega
    rw [fixT_hi, ab_sz]; omega
theorem fix_from : FromIs fixR [] fixT [((97 : Int), (98 : Int), (256 : Int), (256 : Int))] [] where
  ranks := ⟨fun i hi => by
      rw [fixR_len] at hi
      by_cases h : i < 256
      · rw [(fixR_lo h).2]; exact ⟨by omega, by omega⟩
      · obtain rfl : i = 256 := by omega
        rw [fixR_hi.2]; exact ⟨by omega, by omega⟩, fun i hi => by simp at hi, fun i j hij hj => by
      rw [fixR_len] at hj
      rw [(fixR_lo (show i < 256 by omega)).2]
      by_cases h : j < 256
      · rw [(fixR_lo h).2]; omega
      · obtain rfl : j = 256 := by omega
        rw [fixR_hi.2]; omega⟩
  tok := ⟨⟨fun i hi => by
      rw [fixR_len] at hi
      rw [fixT_len]
      by_cases h : i < 256
      · rw [(fixR_lo h).2]; omega
      · obtain rfl : i = 256 := by omega
        rw [fixR_hi.2]; omega, fun i hi => by simp at hi, .inr (.inl ⟨256, by rw [fixR_len]; omega, by rw [fixR_hi.2, fixT_len]; rfl⟩)⟩, fun i hi => by
      rw [fixR_len] at hi
      by_cases h : i < 256
      · rw [(fixR_lo h).2, (fixR_lo h).1, Int.toNat_natCast, fixT_lo h]
      · obtain rfl : i = 256 := by omega
        rw [fixR_hi.2, fixR_hi.1]; exact fixT_hi, fun k hk hno => by
      rw [fixT_len] at hk
      by_cases h : k < 256
      · exact absurd (fixR_lo h).2 (hno k (by rw [fixR_len]; omega))
      · obtain rfl : k = 256 := by omega
        exact absurd fixR_hi.2 (hno 256 (by rw [fixR_len]; omega))⟩
  cuts := ⟨by rw [fixT_len, fix_cuts], by simp⟩
  sps := ⟨List.Perm.refl _, List.Pairwise.nil⟩
  may := ⟨fix_mayT, ⟨by simp, fun i hi => by
      obtain rfl : i = 0 := by simpa using hi
      refine ⟨fix_is (i := 97) (by omega), fix_is (i := 98) (by omega), fix_is (i := 256) (by omega), ?_, by simp [mat], by simp [mat]⟩
      show at_ fixT 256 = at_ fixT 97 ++ at_ fixT 98
      rw [fixT_hi, fixT_lo (by omega), fixT_lo (by omega)]
      rfl, fun i j hij hj => by simp at hj; omega⟩, fun i hi => by
      rw [fixT_len] at hi
      by_cases h : i < 256
      · left; rw [fixT_lo h, one_sz]; omega
      · right
        obtain rfl : i = 256 := by omega
        exact ⟨0, by simp, by simp [mat]⟩, ⟨by simp, fun i hi => by simp at hi, fun i j _ hj => by simp at hj⟩⟩
theorem fixR_size (i : Nat) (hi : i < fixR.length) : (tat fixR i).size ≤ 2 := by
  rw [fixR_len] at hi
  by_cases h : i < 256
  · rw [(fixR_lo h).1, one_sz]; omega
  · obtain rfl : i = 256 := by omega
    rw [fixR_hi.1, ab_sz]; omega
end Vc
end Go.Proofs.Ytfgbpjajkmfkoaa
