/-
  The walk of the law LineWords.
-/
import Derived.Test.YtjbcjlpincblcaaDoorLnF
namespace Go.Proofs.YtjbcjlpincblcaaDoor
open Go.RowKit
set_option linter.unusedVariables false

theorem jn_le (b : List (List UInt8)) : ∀ (a : List (List UInt8)), (Ln.jn a).length ≤ (Ln.jn (a ++ b)).length
  | [] => by simp [Ln.jn]
  | [x] => by
    cases b with
    | nil => simp
    | cons y r => simp [Ln.jn]
  | x :: y :: r => by
    have ih := jn_le b (y :: r)
    simp only [List.cons_append] at ih ⊢
    rw [Ln.jn, Ln.jn]
    simp
    omega
/-- The line up to its word j. -/
def bk (s : ByteArray) (j : Nat) : ByteArray := mk (Ln.jn ((Ln.pcs 32 [] (by_ s)).take j))
theorem bk_zero (s : ByteArray) : bk s 0 = ⟨#[]⟩ := rfl
theorem bk_size (s : ByteArray) (j : Nat) : (bk s j).size ≤ s.size := by
  unfold bk
  rw [mk_size, ← by_length s]
  have h := jn_le ((Ln.pcs 32 [] (by_ s)).drop j) ((Ln.pcs 32 [] (by_ s)).take j)
  rw [List.take_append_drop, Ln.jn_words] at h
  exact h
theorem bk_all (s : ByteArray) : bk s (ps 32 s).length = s := by
  unfold bk
  rw [List.take_of_length_le (by simp [ps]), Ln.jn_words, mk_by]
theorem at_ps {s : ByteArray} {j : Nat} (h : j < (ps 32 s).length) : ∃ x, (Ln.pcs 32 [] (by_ s))[j]? = some x ∧ at_ (ps 32 s) j = mk x := by
  have h' : j < (Ln.pcs 32 [] (by_ s)).length := by simpa [ps] using h
  exact ⟨_, List.getElem?_eq_getElem h', by simp [at_, ps, h']⟩
theorem bk_first {s : ByteArray} (h : 0 < (ps 32 s).length) : bk s 1 = at_ (ps 32 s) 0 := by
  obtain ⟨x, hx, e⟩ := at_ps h
  rw [e]
  unfold bk
  rw [List.take_add_one, hx]
  rfl
theorem bk_next {s : ByteArray} {j : Nat} (h : j < (ps 32 s).length) (hj : 0 < j) : bk s j ++ ⟨#[32]⟩ ++ at_ (ps 32 s) j = bk s (j + 1) := by
  obtain ⟨x, hx, e⟩ := at_ps h
  rw [e]
  unfold bk
  have h' : j < (Ln.pcs 32 [] (by_ s)).length := by simpa [ps] using h
  rw [List.take_add_one, hx, Option.toList_some, Ln.jn_snoc _ _ (by intro e'; have h2 := congrArg List.length e'; rw [List.length_take, List.length_nil] at h2; omega)]
  show mk _ ++ mk [32] ++ mk x = _
  rw [mk_append, mk_append]
  simp

set_option maxRecDepth 100000 in
set_option maxHeartbeats 3200000 in
theorem lineWords_calls (s : ByteArray) (w : World) (ht : Tab w) :
    Calls Tryd.prog 4 #[.string s] w fun e w' => e = .returned (.bool true) ∧ Below w.heap.size w w' := by
  have HT := hid ht
  clear ht
  obtain ⟨N, hN⟩ : ∃ N, s.size = N := ⟨_, rfl⟩
  by_cases hb0 : 1000 < N
  · have hb0' : (1000 : Int) < N := by omega
    go_enter Tryd.func4, Tryd.ntmps4
    go_wp2_with fail
    refine (fixed06_calls _ HT.out).mono ?_
    rintro e w' ⟨rfl, hb⟩
    go_wp2_with fail
    go_ret
    exact ⟨rfl, hb⟩
  have hb0' : ¬ (1000 : Int) < N := by omega
  have hpl := ps_len 32 s
  have hss : (s.toList == s.toList) = true := beq_self_eq_true _
  go_enter Tryd.func4, Tryd.ntmps4
  go_wp2_with fail
  refine (words_calls s _ (by omega)).mono ?_
  rintro e w1 ⟨ho, hb1⟩
  have B1 := hid hb1
  have HT1 := hid (HT.out.below hb1)
  clear hb1
  rcases ho with ⟨hg, a1, k1, c1, rfl, t1⟩ | ⟨hg, rfl⟩
  · have T1 := hid t1
    have hk1 := t1.len
    have HW := hid (show wds s = ps 32 s by unfold wds ps; rw [show Ln.words (by_ s) = _ from hg])
    have hpos : 0 < k1 := by
      rw [← hk1]
      have := Ln.pcs_ne 32 (by_ s) []
      have h2 : (Ln.pcs 32 [] (by_ s)).length ≠ 0 := fun e => this (List.eq_nil_of_length_eq_zero e)
      have h3 : (ps 32 s).length = (Ln.pcs 32 [] (by_ s)).length := by simp [ps]
      omega
    have hpos' : (0 : Int) < k1 := by omega
    clear t1 hg
    go_wp2_with fail
    refine (rwords_calls s _ (by omega)).mono ?_
    rintro e w2 ⟨a2, k2, c2, rfl, t2, hb2⟩
    rw [HW.out] at t2
    obtain rfl : k1 = k2 := hk1.symm.trans t2.len
    have B2 := hid (B1.out.trans (hb2.mono B1.out.size))
    have HT2 := hid (HT1.out.below hb2)
    have T12 := hid (T1.out.below hb2)
    have T2 := hid t2
    clear t2 hb2
    go_wp2_with fail
    refine (same_yes T12.out T2.out (by omega)).mono ?_
    rintro e w3 ⟨rfl, d3, hw3⟩
    have hb3 : Below w2.heap.size w2 w3 := by rw [hw3]; exact below_drewN (Below.refl _ _) d3
    have B3 := hid (B2.out.trans (hb3.mono B2.out.size))
    have HT3 := hid (HT2.out.below hb3)
    have T13 := hid (T12.out.below hb3)
    clear hb3 hw3 T1 T2 T12
    obtain ⟨b, off, rfl, hblt, hc⟩ := T13.out.at' hpos
    have HC := hid hc
    clear hc
    go_wp2_with fail
    go_loopg [6, 33] k1 (fun r bv iv wr => ∃ (j : Nat) (Y : ByteArray), r = k1 - j ∧ j ≤ k1 ∧ iv = .int .i64 j ∧ bv = .string Y ∧ Hid (Y = bk s j) ∧ w3 = wr)
    case atStart => exact ⟨0, ⟨#[]⟩, rfl, by omega, rfl, rfl, hid (bk_zero s).symm, rfl⟩
    case round =>
      obtain ⟨j, Y, rfl, hj, rfl, rfl, HY, rfl⟩ := hrel
      have hYs : Y.size ≤ 1000 := by have := bk_size s j; rw [← HY.out] at this; omega
      by_cases hlt : j < k1
      · have l0 : (0 : Int) ≤ j := by omega
        have l1 : (j : Int) < k1 := by omega
        have e2 : IntKind.i64.wrap ((j : Int) + 1) = j + 1 := i64_in (by omega) (by omega)
        have q := HC.out j hlt
        obtain ⟨Z, hZ⟩ : ∃ Z, at_ (ps 32 s) j = Z := ⟨_, rfl⟩
        rw [hZ] at q
        have HZ := hid hZ
        clear hZ
        have hb1 := bk_size s (j + 1)
        by_cases hj0 : j = 0
        · subst hj0
          rw [Nat.add_zero] at q
          have hY0 : Y = ⟨#[]⟩ := HY.out.trans (bk_zero s)
          subst hY0
          have HE := hid (show Z = bk s (0 + 1) by rw [← HZ.out]; exact (bk_first (by omega)).symm)
          have hZs : Z.size ≤ 1000 := by rw [HE.out]; omega
          have hem : (⟨#[]⟩ : ByteArray).size = 0 := rfl
          have hcat : ¬ 9223372036854775807 < (⟨#[]⟩ : ByteArray).size + Z.size := by omega
          have HE2 := hid (show (⟨#[]⟩ : ByteArray) ++ Z = bk s (0 + 1) by rw [← HE.out]; apply by_inj; rw [by_append]; rfl)
          clear hb1
          go_wp2_with fail
          go_roundg (k1 - (0 + 1))
          case measure => omega
          case rel => exact ⟨0 + 1, _, rfl, by omega, by go_num, rfl, HE2, rfl⟩
        · have hjp : (0 : Int) < j := by omega
          have HE := hid (show Y ++ ⟨#[32]⟩ ++ Z = bk s (j + 1) by rw [HY.out, ← HZ.out]; exact bk_next (by omega) (by omega))
          have hs32 : (⟨#[32]⟩ : ByteArray).size = 1 := rfl
          have hcat : ¬ 9223372036854775807 < Y.size + (⟨#[32]⟩ : ByteArray).size := by omega
          obtain ⟨V, hV⟩ : ∃ V, Y ++ (⟨#[32]⟩ : ByteArray) = V := ⟨_, rfl⟩
          rw [hV] at HE
          have hsz2 := congrArg ByteArray.size HE.out
          rw [ByteArray.size_append] at hsz2
          have hcat2 : ¬ 9223372036854775807 < V.size + Z.size := by omega
          clear hsz2 hb1
          go_wp2_with fail
          go_roundg (k1 - (j + 1))
          case measure => omega
          case rel => exact ⟨j + 1, _, rfl, by omega, by go_num, rfl, HE, rfl⟩
      · have l1 : ¬ (j : Int) < k1 := by omega
        obtain rfl : j = k1 := by omega
        have hYs2 : Y = s := by rw [HY.out, ← hk1]; exact bk_all s
        subst hYs2
        clear HY
        go_wp2_with fail
        refine (fixed06_calls _ HT3.out).mono ?_
        rintro e w5 ⟨rfl, hb5⟩
        have B5 := hid (B3.out.trans (hb5.mono B3.out.size))
        clear hb5
        go_wp2_with fail
        go_ret
        exact ⟨rfl, B5.out⟩
  · have HW := hid (show wds s = [] by unfold wds; rw [hg]; rfl)
    clear hg
    go_wp2_with fail
    refine (rwords_calls s _ (by omega)).mono ?_
    rintro e w2 ⟨a2, k2, c2, rfl, t2, hb2⟩
    rw [HW.out] at t2
    obtain rfl : 0 = k2 := t2.len
    have B2 := hid (B1.out.trans (hb2.mono B1.out.size))
    have HT2 := hid (HT1.out.below hb2)
    have T2 := hid t2
    have T1 := hid (show Ts w2 none 0 0 [] from ⟨rfl, Nat.le_refl _, Nat.zero_le _, fun _ => ⟨rfl, rfl⟩, fun h => absurd h (by omega)⟩)
    clear t2 hb2
    go_wp2_with fail
    refine (same_yes T1.out T2.out (by omega)).mono ?_
    rintro e w3 ⟨rfl, d3, hw3⟩
    have hb3 : Below w2.heap.size w2 w3 := by rw [hw3]; exact below_drewN (Below.refl _ _) d3
    have B3 := hid (B2.out.trans (hb3.mono B2.out.size))
    have HT3 := hid (HT2.out.below hb3)
    clear hb3 hw3 T1 T2
    go_wp2_with fail
    go_loopg [6, 33] 0 (fun r bv iv wr => r = 0 ∧ iv = .int .i64 0 ∧ bv = .string ⟨#[]⟩ ∧ w3 = wr)
    case atStart => exact ⟨rfl, rfl, rfl, rfl⟩
    case round =>
      obtain ⟨rfl, rfl, rfl, rfl⟩ := hrel
      go_wp2_with fail
      refine (fixed06_calls _ HT3.out).mono ?_
      rintro e w5 ⟨rfl, hb5⟩
      have B5 := hid (B3.out.trans (hb5.mono B3.out.size))
      clear hb5
      go_wp2_with fail
      go_ret
      exact ⟨rfl, B5.out⟩
end Go.Proofs.YtjbcjlpincblcaaDoor
