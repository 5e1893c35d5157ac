/-
  Walks of letter.Of, letter.Byte, and of the reference's plain, Of, Byte.
-/
import Derived.Test.YtaejoleijmihhaaChecked
import Derived.Test.YtaejoleijmihhaaBase
import Derived.Test.YtaejoleijmihhaaLeMath
import Derived.Deep.LoopGhost
namespace Go.Proofs.Ytaejoleijmihhaa
open Go.RowKit
set_option linter.unusedVariables false

theorem lof_calls (b : Int) (h0 : 0 ≤ b) (h1 : b ≤ 255) (w : World) :
    Calls Try.prog 9 #[.int .u8 b] w fun e w' => e = .returned (.int .i64 (Le.ltr b)) ∧ w' = w := by
  have HC := hid (Le.ltr_cases b)
  by_cases a : b = 173
  · subst a
    go_enter Try.func9, Try.ntmps9
    go_wp2
    go_ret
    exact ⟨rfl, rfl⟩
  have a' : (b == 173) = false := by simpa using a
  by_cases c : 127 ≤ b ∧ b ≤ 160
  · obtain ⟨c1, c2⟩ := c
    go_enter Try.func9, Try.ntmps9
    go_wp2
    go_ret
    exact ⟨ret_int (by have := HC.out.2.1 ⟨c1, c2⟩; omega), rfl⟩
  by_cases d : b ≤ 32
  · have c1 : ¬ 127 ≤ b := by omega
    clear c
    go_enter Try.func9, Try.ntmps9
    go_wp2
    go_ret
    exact ⟨ret_int (by have := HC.out.2.2.1 d; omega), rfl⟩
  · by_cases c1 : 127 ≤ b
    · have c2 : ¬ b ≤ 160 := by omega
      clear c
      go_enter Try.func9, Try.ntmps9
      go_wp2
      go_ret
      exact ⟨ret_int (by have := HC.out.2.2.2; omega), rfl⟩
    · clear c
      go_enter Try.func9, Try.ntmps9
      go_wp2
      go_ret
      exact ⟨ret_int (by have := HC.out.2.2.2; omega), rfl⟩

/-- What Byte answers. -/
def B2 (x : Int) : Value := .tuple #[.int .u8 (if 0 ≤ x then x else 0), .bool (decide (0 ≤ x))]
theorem B2_yes {x y : Int} (h : 0 ≤ y) (e : x = y) : Ending.returned (.tuple #[.int .u8 y, .bool true]) = .returned (B2 x) := by
  subst e; unfold B2; rw [if_pos h]; simp [h]
theorem B2_no {x : Int} (h : x < 0) : Ending.returned (.tuple #[.int .u8 0, .bool false]) = .returned (B2 x) := by
  have h' : ¬ 0 ≤ x := by omega
  unfold B2; rw [if_neg h']; simp [h']

theorem l173 : Le.ltr 173 = 323 := by decide
theorem l127 : Le.ltr 127 = 289 := by decide
theorem l160 : Le.ltr 160 = 322 := by decide
theorem l0 : Le.ltr 0 = 256 := by decide
theorem l32 : Le.ltr 32 = 288 := by decide

set_option maxHeartbeats 800000 in
theorem lbyte_calls (p : Int) (w : World) :
    Calls Try.prog 8 #[.int .i64 p] w fun e w' => e = .returned (B2 (Le.byt p)) ∧ w' = w := by
  have HC := hid (Le.byt_cases p)
  by_cases a : p = 323
  · subst a
    go_enter Try.func8, Try.ntmps8
    go_wp2_with fail
    refine (lof_calls 173 (by omega) (by omega) _).mono ?_
    rintro e w ⟨rfl, rfl⟩
    rw [l173]
    go_wp2_with fail
    refine (lof_calls 173 (by omega) (by omega) _).mono ?_
    rintro e w ⟨rfl, rfl⟩
    rw [l173]
    go_wp2_with fail
    go_ret2
    exact ⟨B2_yes (by omega) (by decide), rfl⟩
  have a' : (p == 323) = false := by simpa using a
  have a'' : (p = 323) = False := by simpa using a
  by_cases c : 289 ≤ p ∧ p ≤ 322
  · obtain ⟨c1, c2⟩ := c
    have e1 := HC.out.2.1 ⟨c1, c2⟩
    have HL := hid (show Le.ltr (p + 94 - 256) = p by rw [show p + 94 - 256 = Le.byt p by omega]; exact Le.ltr_byt (by omega))
    have E1 := hid e1
    clear e1
    go_enter Try.func8, Try.ntmps8
    go_wp2_with fail
    refine (lof_calls 173 (by omega) (by omega) _).mono ?_
    rintro e w ⟨rfl, rfl⟩
    rw [l173]
    go_wp2_with fail
    refine (lof_calls 127 (by omega) (by omega) _).mono ?_
    rintro e w ⟨rfl, rfl⟩
    rw [l127]
    go_wp2_with fail
    refine (lof_calls 160 (by omega) (by omega) _).mono ?_
    rintro e w ⟨rfl, rfl⟩
    rw [l160]
    go_wp2_with fail
    refine (lof_calls _ (by omega) (by omega) _).mono ?_
    rintro e w ⟨rfl, rfl⟩
    rw [HL.out]
    go_wp2_with fail
    go_ret2
    exact ⟨B2_yes (by omega) (by have := E1.out; omega), rfl⟩
  by_cases d : 256 ≤ p ∧ p ≤ 288
  · obtain ⟨d1, d2⟩ := d
    have c1 : ¬ 289 ≤ p := by omega
    have e1 := HC.out.2.2.1 ⟨d1, d2⟩
    have HL := hid (show Le.ltr (p - 256) = p by rw [show p - 256 = Le.byt p by omega]; exact Le.ltr_byt (by omega))
    have E1 := hid e1
    clear e1 c
    go_enter Try.func8, Try.ntmps8
    go_wp2_with fail
    refine (lof_calls 173 (by omega) (by omega) _).mono ?_
    rintro e w ⟨rfl, rfl⟩
    rw [l173]
    go_wp2_with fail
    refine (lof_calls 127 (by omega) (by omega) _).mono ?_
    rintro e w ⟨rfl, rfl⟩
    rw [l127]
    go_wp2_with fail
    refine (lof_calls 0 (by omega) (by omega) _).mono ?_
    rintro e w ⟨rfl, rfl⟩
    rw [l0]
    go_wp2_with fail
    refine (lof_calls 32 (by omega) (by omega) _).mono ?_
    rintro e w ⟨rfl, rfl⟩
    rw [l32]
    go_wp2_with fail
    refine (lof_calls _ (by omega) (by omega) _).mono ?_
    rintro e w ⟨rfl, rfl⟩
    rw [HL.out]
    go_wp2_with fail
    go_ret2
    exact ⟨B2_yes (by omega) (by have := E1.out; omega), rfl⟩
  by_cases lo : p < 0
  · have c1 : ¬ 289 ≤ p := by omega
    have d1 : ¬ 256 ≤ p := by omega
    have E1 := hid (HC.out.2.2.2.2 (by omega))
    clear c d
    go_enter Try.func8, Try.ntmps8
    go_wp2_with fail
    refine (lof_calls 173 (by omega) (by omega) _).mono ?_
    rintro e w ⟨rfl, rfl⟩
    rw [l173]
    go_wp2_with fail
    refine (lof_calls 127 (by omega) (by omega) _).mono ?_
    rintro e w ⟨rfl, rfl⟩
    rw [l127]
    go_wp2_with fail
    refine (lof_calls 0 (by omega) (by omega) _).mono ?_
    rintro e w ⟨rfl, rfl⟩
    rw [l0]
    go_wp2_with fail
    go_ret2
    exact ⟨B2_no (by have := E1.out; omega), rfl⟩
  by_cases hi : 255 < p
  · have hi' : 323 < p := by omega
    have c1 : 289 ≤ p := by omega
    have c2 : ¬ p ≤ 322 := by omega
    have d1 : 256 ≤ p := by omega
    have d2 : ¬ p ≤ 288 := by omega
    have E1 := hid (HC.out.2.2.2.2 (by omega))
    clear c d
    go_enter Try.func8, Try.ntmps8
    go_wp2_with fail
    refine (lof_calls 173 (by omega) (by omega) _).mono ?_
    rintro e w ⟨rfl, rfl⟩
    rw [l173]
    go_wp2_with fail
    refine (lof_calls 127 (by omega) (by omega) _).mono ?_
    rintro e w ⟨rfl, rfl⟩
    rw [l127]
    go_wp2_with fail
    refine (lof_calls 160 (by omega) (by omega) _).mono ?_
    rintro e w ⟨rfl, rfl⟩
    rw [l160]
    go_wp2_with fail
    refine (lof_calls 0 (by omega) (by omega) _).mono ?_
    rintro e w ⟨rfl, rfl⟩
    rw [l0]
    go_wp2_with fail
    refine (lof_calls 32 (by omega) (by omega) _).mono ?_
    rintro e w ⟨rfl, rfl⟩
    rw [l32]
    go_wp2_with fail
    go_ret2
    exact ⟨B2_no (by have := E1.out; omega), rfl⟩
  have c1 : ¬ 289 ≤ p := by omega
  have d1 : ¬ 256 ≤ p := by omega
  clear c d
  obtain ⟨q, hq⟩ : ∃ q, Le.ltr p = q := ⟨_, rfl⟩
  have HQ := hid hq
  clear hq
  by_cases hk : q = p
  · subst hk
    have E1 := hid (Le.byt_of (p := q) (i := q) (by omega) (by omega) HQ.out)
    go_enter Try.func8, Try.ntmps8
    go_wp2_with fail
    refine (lof_calls 173 (by omega) (by omega) _).mono ?_
    rintro e w ⟨rfl, rfl⟩
    rw [l173]
    go_wp2_with fail
    refine (lof_calls 127 (by omega) (by omega) _).mono ?_
    rintro e w ⟨rfl, rfl⟩
    rw [l127]
    go_wp2_with fail
    refine (lof_calls 0 (by omega) (by omega) _).mono ?_
    rintro e w ⟨rfl, rfl⟩
    rw [l0]
    go_wp2_with fail
    refine (lof_calls _ (by omega) (by omega) _).mono ?_
    rintro e w ⟨rfl, rfl⟩
    rw [HQ.out]
    go_wp2_with fail
    go_ret2
    exact ⟨B2_yes (by omega) (by have := E1.out; omega), rfl⟩
  · have E1 := hid (show Le.byt p = -1 from HC.out.2.2.2.2 (by have := Le.ltr_cases p; have := HQ.out; omega))
    have hk1 : (q == p) = false := by simpa using hk
    have hk2 : (q != p) = true := by simpa using hk
    go_enter Try.func8, Try.ntmps8
    go_wp2_with fail
    refine (lof_calls 173 (by omega) (by omega) _).mono ?_
    rintro e w ⟨rfl, rfl⟩
    rw [l173]
    go_wp2_with fail
    refine (lof_calls 127 (by omega) (by omega) _).mono ?_
    rintro e w ⟨rfl, rfl⟩
    rw [l127]
    go_wp2_with fail
    refine (lof_calls 0 (by omega) (by omega) _).mono ?_
    rintro e w ⟨rfl, rfl⟩
    rw [l0]
    go_wp2_with fail
    refine (lof_calls _ (by omega) (by omega) _).mono ?_
    rintro e w ⟨rfl, rfl⟩
    rw [HQ.out]
    go_wp2_with fail
    go_ret2
    exact ⟨B2_no (by have := E1.out; omega), rfl⟩

namespace Le
/-- Is a byte's letter its own number? -/
def plain (n : Int) : Bool := decide (33 ≤ n ∧ n ≤ 126 ∨ 161 ≤ n ∧ n ≤ 172 ∨ 174 ≤ n ∧ n ≤ 255)
/-- How many of the first i numbers aren't plain. -/
def cnt : Nat → Nat
  | 0 => 0
  | i + 1 => if plain i then cnt i else cnt i + 1
theorem cnt_le : ∀ i, cnt i ≤ i
  | 0 => Nat.le_refl _
  | i + 1 => by have := cnt_le i; simp only [cnt]; split <;> omega
theorem ltr_plain {b : Int} (h1 : b ≤ 255) (h : plain b = true) : ltr b = b := by
  have := ltr_cases b
  unfold plain at h
  have := of_decide_eq_true h
  omega
theorem cnt_ltr : ∀ b : Nat, b < 256 → plain b = false → 256 + (cnt b : Int) = ltr b := by decide +kernel
end Le

set_option maxHeartbeats 800000 in
theorem plain_calls (n : Int) (w : World) :
    Calls Try.prog 17 #[.int .i64 n] w fun e w' => e = .returned (.bool (Le.plain n)) ∧ w' = w := by
  go_enter Try.func17, Try.ntmps17
  go_wp2
  all_goals (go_ret; refine ⟨ret_bool ?_, rfl⟩; unfold Le.plain; first | exact (decide_eq_true (by omega)).symm | exact (decide_eq_false (by omega)).symm | (rw [Bool.eq_iff_iff]; simp; omega))

set_option maxHeartbeats 800000 in
theorem rof_calls (b : Nat) (h1 : b ≤ 255) (w : World) :
    Calls Try.prog 12 #[.int .u8 b] w fun e w' => e = .returned (.int .i64 (Le.ltr b)) ∧ w' = w := by
  have h0 : (0 : Int) ≤ b := by omega
  have h1' : (b : Int) ≤ 255 := by omega
  go_enter Try.func12, Try.ntmps12
  go_wp2_with fail
  refine (plain_calls _ _).mono ?_
  rintro e w ⟨rfl, rfl⟩
  cases hp : Le.plain b
  · have HP := hid hp
    clear hp
    go_wp2_with fail
    go_loopg [3, 4] b (fun r nv iv wr => ∃ i : Nat, i ≤ b ∧ r = b - i ∧ nv = .int .i64 (256 + (Le.cnt i : Nat)) ∧ iv = .int .i64 i ∧ w = wr)
    case atStart => exact ⟨0, by omega, rfl, rfl, rfl, rfl⟩
    case round =>
      obtain ⟨i, hi, rfl, rfl, rfl, rfl⟩ := hrel
      by_cases hlt : i < b
      · have h2 : (i : Int) < b := by omega
        have hc := Le.cnt_le i
        go_wp2_with fail
        refine (plain_calls _ _).mono ?_
        rintro e w ⟨rfl, rfl⟩
        cases hq : Le.plain i
        · have HQ := hid hq
          clear hq
          go_wp2_with fail
          go_roundg (b - (i + 1))
          case measure => omega
          case rel => exact ⟨i + 1, by omega, rfl, by simp only [Le.cnt, HQ.out]; go_num, by go_num, rfl⟩
        · have HQ := hid hq
          clear hq
          go_wp2_with fail
          go_roundg (b - (i + 1))
          case measure => omega
          case rel => exact ⟨i + 1, by omega, rfl, by simp only [Le.cnt, HQ.out]; rfl, by go_num, rfl⟩
      · obtain rfl : i = b := by omega
        have h2 : ¬ (i : Int) < i := by omega
        go_wp2_with fail
        go_ret
        exact ⟨ret_int (Le.cnt_ltr i (by omega) HP.out), rfl⟩
  · have HP := hid (Le.ltr_plain h1' hp)
    clear hp
    go_wp2_with fail
    go_ret
    exact ⟨ret_int HP.out.symm, rfl⟩

set_option maxHeartbeats 800000 in
theorem rbyte_calls (p : Int) (w : World) :
    Calls Try.prog 10 #[.int .i64 p] w fun e w' => e = .returned (.int .i64 (Le.byt p)) ∧ w' = w := by
  go_enter Try.func10, Try.ntmps10
  go_wp2_with fail
  go_loopg [3] 256 (fun r iv wr => ∃ i : Nat, i ≤ 256 ∧ r = 256 - i ∧ iv = .int .i64 i ∧ Hid (∀ j : Nat, j < i → Le.ltr j ≠ p) ∧ w = wr)
  case atStart => exact ⟨0, by omega, rfl, rfl, hid (fun j hj => absurd hj (by omega)), rfl⟩
  case round =>
    obtain ⟨i, hi, rfl, rfl, HA, rfl⟩ := hrel
    by_cases hlt : i < 256
    · have h2 : (i : Int) < 256 := by omega
      have h3 : (0 : Int) ≤ i := by omega
      have h4 : (i : Int) ≤ 255 := by omega
      go_wp2_with fail
      refine (rof_calls i (by omega) _).mono ?_
      rintro e w ⟨rfl, rfl⟩
      obtain ⟨q, hq⟩ : ∃ q, Le.ltr i = q := ⟨_, rfl⟩
      rw [hq]
      have HQ := hid hq
      clear hq
      by_cases hk : q = p
      · subst hk
        have E := hid (Le.byt_of h3 h4 HQ.out)
        go_wp2_with fail
        go_ret
        exact ⟨ret_int E.out.symm, rfl⟩
      · have hk1 : (q == p) = false := by simpa using hk
        have HK := hid hk
        go_wp2_with fail
        go_roundg (256 - (i + 1))
        case measure => omega
        case rel =>
          refine ⟨i + 1, by omega, rfl, by go_num, hid (fun j hj => ?_), rfl⟩
          by_cases e : j = i
          · subst e; rw [HQ.out]; exact HK.out
          · exact HA.out j (by omega)
    · obtain rfl : i = 256 := by omega
      have E := hid (show Le.byt p = -1 by
        have bb := Le.byt_bd p
        by_cases hn : 0 ≤ Le.byt p
        · have := HA.out (Le.byt p).toNat (by omega)
          rw [show (((Le.byt p).toNat : Nat) : Int) = Le.byt p by omega] at this
          exact absurd (Le.ltr_byt hn) this
        · omega)
      go_wp2_with fail
      go_ret
      exact ⟨ret_int E.out.symm, rfl⟩
end Go.Proofs.Ytaejoleijmihhaa
