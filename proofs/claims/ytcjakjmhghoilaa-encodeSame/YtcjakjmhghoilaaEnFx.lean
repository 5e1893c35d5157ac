/-
  Vocabularies of the 256 bytes and a few tokens more, in plain mathematics; the chapter's examples. No program is named here.
-/
import Derived.Test.YtcjakjmhghoilaaLotV
import Derived.Test.YtcjakjmhghoilaaLotM
namespace Go.Proofs.Ytcjakjmhghoilaa
open Go.RowKit
namespace Vc
def exT (xs : Toks) : Toks := (List.range 256).map one ++ xs
theorem exT_len (xs : Toks) : (exT xs).length = 256 + xs.length := by simp [exT]
theorem exT_lo {xs : Toks} {i : Nat} (h : i < 256) : at_ (exT xs) i = one i := by
  have h1 : (exT xs)[i]? = some (one i) := by
    unfold exT
    rw [List.getElem?_append_left (by simpa using h)]
    simp [h]
  simp [at_, List.getD_eq_getElem?_getD, h1]
theorem exT_hi (xs : Toks) (i : Nat) : at_ (exT xs) (256 + i) = at_ xs i := by
  unfold at_ exT
  rw [List.getD_eq_getElem?_getD, List.getD_eq_getElem?_getD, List.getElem?_append_right (by simp)]
  simp
theorem lR_lo {xs : Toks} {n i : Nat} (h : i < 256) : tat (lR xs n) i = one i ∧ kat (lR xs n) i = i := by
  have h1 : (lR xs n)[i]? = some (one i, (i : Int)) := by
    unfold lR
    rw [List.getElem?_append_left (by rw [bR_len]; exact h)]
    simp [bR, h]
  simp [tat, kat, List.getD_eq_getElem?_getD, h1]
theorem lR_hi {xs : Toks} {n i : Nat} (h : i < n) : tat (lR xs n) (256 + i) = at_ xs i ∧ kat (lR xs n) (256 + i) = ((256 + i : Nat) : Int) := by
  have h1 : (lR xs n)[256 + i]? = some (at_ xs i, 256 + (i : Int)) := by
    unfold lR
    rw [List.getElem?_append_right (by rw [bR_len]; omega), bR_len]
    simp [h]
  simp [tat, kat, List.getD_eq_getElem?_getD, h1]
theorem lR_kat {xs : Toks} {n i : Nat} (h : i < 256 + n) : kat (lR xs n) i = i := by
  by_cases h1 : i < 256
  · exact (lR_lo h1).2
  · obtain ⟨m, rfl⟩ : ∃ m, i = 256 + m := ⟨i - 256, by omega⟩
    exact (lR_hi (by omega)).2
/-- Tokens that may stand behind the bytes. -/
structure Ex (xs : Toks) : Prop where
  le : xs.length ≤ 700
  sz : ∀ i, i < xs.length → 2 ≤ (at_ xs i).size ∧ (at_ xs i).size ≤ 64
  ap : ∀ i j, i < xs.length → j < xs.length → at_ xs i = at_ xs j → i = j
theorem ex_sz {xs : Toks} (h : Ex xs) {i : Nat} (hi : i < 256 + xs.length) : (at_ (exT xs) i).size ≠ 0 ∧ (at_ (exT xs) i).size ≤ 64 := by
  by_cases h1 : i < 256
  · rw [exT_lo h1, one_sz]; omega
  · obtain ⟨m, rfl⟩ : ∃ m, i = 256 + m := ⟨i - 256, by omega⟩
    rw [exT_hi]
    have := h.sz m (by omega)
    omega
theorem ex_mayT {xs : Toks} (h : Ex xs) : MayT (exT xs) where
  len := by rw [exT_len]; have := h.le; omega
  sz := fun i hi => (ex_sz h (by rwa [exT_len] at hi)).2
  apart := fun i j hi hj _ he => by
    rw [exT_len] at hi hj
    by_cases h1 : i < 256
    · by_cases h2 : j < 256
      · rw [exT_lo h1, exT_lo h2] at he
        exact one_inj h1 h2 he
      · obtain ⟨m, rfl⟩ : ∃ m, j = 256 + m := ⟨j - 256, by omega⟩
        rw [exT_lo h1, exT_hi] at he
        have := congrArg ByteArray.size he
        rw [one_sz] at this
        have := (h.sz m (by omega)).1
        omega
    · obtain ⟨k, rfl⟩ : ∃ m, i = 256 + m := ⟨i - 256, by omega⟩
      by_cases h2 : j < 256
      · rw [exT_lo h2, exT_hi] at he
        have := congrArg ByteArray.size he
        rw [one_sz] at this
        have := (h.sz k (by omega)).1
        omega
      · obtain ⟨m, rfl⟩ : ∃ m, j = 256 + m := ⟨j - 256, by omega⟩
        rw [exT_hi, exT_hi] at he
        have := h.ap k m (by omega) (by omega) he
        omega
  all := fun b hb => ⟨b, by rw [exT_len]; omega, exT_lo hb⟩
theorem ex_cuts0 (xs : Toks) : ∀ n, n ≤ 256 → cutsL (exT xs) n = []
  | 0, _ => rfl
  | n + 1, h => by
    rw [cutsL, ex_cuts0 xs n (by omega), exT_lo (show n < 256 by omega), one_sz]
    rfl
theorem ex_is {xs : Toks} (h : Ex xs) {i : Nat} (hi : i < 256 + xs.length) : Is (exT xs) (i : Int) := ⟨by omega, by rw [exT_len]; omega, by rw [Int.toNat_natCast]; exact (ex_sz h hi).1⟩
/-- Such rows make such a vocabulary. -/
theorem ex_from {xs : Toks} (h : Ex xs) {M : List Mg4} (hc : cutsL (exT xs) (256 + xs.length) = M) (hu : M.Pairwise (fun a b => ¬ Ahead b a)) (hM : MayM (exT xs) M) (hO : ∀ i, i < xs.length → ∃ k, k < M.length ∧ (mat M k).2.2.1 = ((256 + i : Nat) : Int)) (h0 : 0 < xs.length) : FromIs (lR xs xs.length) [] (exT xs) M [] where
  ranks := ⟨fun i hi => by
      rw [lR_len] at hi
      rw [lR_kat hi]
      have := h.le
      exact ⟨by omega, by omega⟩, fun i hi => by simp at hi, fun i j hij hj => by
      rw [lR_len] at hj
      rw [lR_kat hj, lR_kat (by omega)]
      omega⟩
  tok := ⟨⟨fun i hi => by
      rw [lR_len] at hi
      rw [exT_len, lR_kat hi]
      omega, fun i hi => by simp at hi, .inr (.inl ⟨256 + (xs.length - 1), by rw [lR_len]; omega, by rw [lR_kat (by omega), exT_len]; omega⟩)⟩, fun i hi => by
      rw [lR_len] at hi
      rw [lR_kat hi, Int.toNat_natCast]
      by_cases h1 : i < 256
      · rw [(lR_lo h1).1, exT_lo h1]
      · obtain ⟨m, rfl⟩ : ∃ m, i = 256 + m := ⟨i - 256, by omega⟩
        rw [exT_hi]
        exact (lR_hi (by omega)).1.symm, fun k hk hno => by
      rw [exT_len] at hk
      exact absurd (lR_kat hk) (hno k (by rw [lR_len]; exact hk))⟩
  cuts := ⟨by rw [exT_len, hc], hu⟩
  sps := ⟨List.Perm.refl _, List.Pairwise.nil⟩
  may := ⟨ex_mayT h, hM, fun i hi => by
      rw [exT_len] at hi
      by_cases h1 : i < 256
      · left; rw [exT_lo h1, one_sz]; omega
      · obtain ⟨m, rfl⟩ : ∃ m, i = 256 + m := ⟨i - 256, by omega⟩
        obtain ⟨k, hk, e⟩ := hO m (by omega)
        exact .inr ⟨k, hk, e⟩, ⟨by simp, fun i hi => by simp at hi, fun i j _ hj => by simp at hj⟩⟩
/-! ### The chapter's two -/
def abc : ByteArray := mk [97, 98, 99]
def cd : ByteArray := mk [99, 100]
def abcd : ByteArray := mk [97, 98, 99, 100]
def ex3 : Toks := [ab, bc, abc]
def ex4 : Toks := [bc, ab, cd, abcd]
def exM3 : List Mg4 := [((97 : Int), (98 : Int), (256 : Int), (256 : Int)), ((98 : Int), (99 : Int), (257 : Int), (257 : Int)), ((97 : Int), (257 : Int), (258 : Int), (258 : Int)), ((256 : Int), (99 : Int), (258 : Int), (258 : Int))]
def exM4 : List Mg4 := [((98 : Int), (99 : Int), (256 : Int), (256 : Int)), ((97 : Int), (98 : Int), (257 : Int), (257 : Int)), ((99 : Int), (100 : Int), (258 : Int), (258 : Int)), ((257 : Int), (258 : Int), (259 : Int), (259 : Int))]
theorem ex3_ex : Ex ex3 where
  le := by decide
  sz := fun i hi => by
    have : i = 0 ∨ i = 1 ∨ i = 2 := by simp [ex3] at hi; omega
    rcases this with rfl | rfl | rfl <;> decide
  ap := by
    have key : ∀ i, i < 3 → ∀ j, j < 3 → at_ ex3 i = at_ ex3 j → i = j := by decide
    exact fun i j hi hj e => key i hi j hj e
theorem ex4_ex : Ex ex4 where
  le := by decide
  sz := fun i hi => by
    have : i = 0 ∨ i = 1 ∨ i = 2 ∨ i = 3 := by simp [ex4] at hi; omega
    rcases this with rfl | rfl | rfl | rfl <;> decide
  ap := by
    have key : ∀ i, i < 4 → ∀ j, j < 4 → at_ ex4 i = at_ ex4 j → i = j := by decide
    exact fun i j hi hj e => key i hi j hj e
set_option maxRecDepth 100000 in
theorem ex3_cuts : cutsL (exT ex3) (256 + ex3.length) = [((97 : Int), (98 : Int), (256 : Int), (256 : Int)), ((98 : Int), (99 : Int), (257 : Int), (257 : Int)), ((97 : Int), (257 : Int), (258 : Int), (258 : Int)), ((256 : Int), (99 : Int), (258 : Int), (258 : Int))] := by decide +kernel
set_option maxRecDepth 100000 in
theorem ex4_cuts : cutsL (exT ex4) (256 + ex4.length) = exM4 := by decide +kernel
end Vc
end Go.Proofs.Ytcjakjmhghoilaa
