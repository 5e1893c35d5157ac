/-
  Several texts in one: UtfBits, UtfW1, UtfW2, UtfW3, UtfW4, UtfW6, UtfP1.
-/
import Derived.Laws.BitsAllLaws
import Derived.Laws.Bits128
import Derived.Test.YtiheagkgpbkkfaaDoorChecked
import Derived.Test.YtiheagkgpbkkfaaDoorLotU
import Derived.Test.YtiheagkgpbkkfaaDoorLotG
import Derived.Deep.LoopGhost
import Derived.Maps.AppendAt
/-
  Bitwise and, or on Go's int where nothing is negative: their arithmetic faces.
-/
namespace Go.Proofs.YtiheagkgpbkkfaaDoor.Utf

theorem wrap_small (n : Nat) (h : n < 9223372036854775808) : IntKind.i64.wrap (n : Int) = (n : Int) := by rw [IntKind.wrap_i64]; omega
theorem i64_and_nat (a b : Nat) (ha : a < 9223372036854775808) (hb : b < 9223372036854775808) : bits .and .i64 (a : Int) (b : Int) = ((a &&& b : Nat) : Int) := by
  show IntKind.i64.wrap ((BitVec.ofInt 64 (a : Int) &&& BitVec.ofInt 64 (b : Int)).toNat : Int) = _
  rw [BitVec.toNat_and, ofInt_u64 a (by omega), ofInt_u64 b (by omega)]
  exact wrap_small _ (Nat.lt_of_le_of_lt Nat.and_le_left ha)
theorem i64_or_nat (a b : Nat) (ha : a < 9223372036854775808) (hb : b < 9223372036854775808) : bits .or .i64 (a : Int) (b : Int) = ((a ||| b : Nat) : Int) := by
  show IntKind.i64.wrap ((BitVec.ofInt 64 (a : Int) ||| BitVec.ofInt 64 (b : Int)).toNat : Int) = _
  rw [BitVec.toNat_or, ofInt_u64 a (by omega), ofInt_u64 b (by omega)]
  exact wrap_small _ (Nat.or_lt_two_pow (n := 63) ha hb)

theorem i64_mask (i : Nat) (n : Int) (h0 : 0 ≤ n) (h1 : n < 9223372036854775808) (hi : 2 ^ i - 1 < 9223372036854775808) : bits .and .i64 n ((2 ^ i - 1 : Nat) : Int) = n % ((2 ^ i : Nat) : Int) := by
  obtain ⟨m, rfl⟩ := Int.eq_ofNat_of_zero_le h0
  rw [i64_and_nat m _ (by omega) hi, Nat.and_two_pow_sub_one_eq_mod]
  rfl
theorem i64_join (i : Nat) (a b : Int) (h0 : 0 ≤ a) (h1 : a < 9223372036854775808) (hb0 : 0 ≤ b) (hb : b < ((2 ^ i : Nat) : Int)) (hb' : b < 9223372036854775808) (hm : a % ((2 ^ i : Nat) : Int) = 0) : bits .or .i64 a b = a + b := by
  obtain ⟨m, rfl⟩ := Int.eq_ofNat_of_zero_le h0
  obtain ⟨k, rfl⟩ := Int.eq_ofNat_of_zero_le hb0
  rw [i64_or_nat m k (by omega) (by omega), nat_join i m k (by exact_mod_cast hm) (by exact_mod_cast hb)]
  rfl
theorem i64_and63 (n : Int) (h0 : 0 ≤ n) (h1 : n < 9223372036854775808) : bits .and .i64 n 63 = n % 64 := i64_mask 6 n h0 h1 (by decide)
theorem i64_and31 (n : Int) (h0 : 0 ≤ n) (h1 : n < 9223372036854775808) : bits .and .i64 n 31 = n % 32 := i64_mask 5 n h0 h1 (by decide)
theorem i64_and15 (n : Int) (h0 : 0 ≤ n) (h1 : n < 9223372036854775808) : bits .and .i64 n 15 = n % 16 := i64_mask 4 n h0 h1 (by decide)
theorem i64_and7 (n : Int) (h0 : 0 ≤ n) (h1 : n < 9223372036854775808) : bits .and .i64 n 7 = n % 8 := i64_mask 3 n h0 h1 (by decide)
theorem i64_or64 (a b : Int) (h0 : 0 ≤ a) (h1 : a < 9223372036854775808) (hb0 : 0 ≤ b) (hb : b < 64) (hm : a % 64 = 0) : bits .or .i64 a b = a + b := i64_join 6 a b h0 h1 hb0 hb (by omega) hm
theorem i64_or32 (a b : Int) (h0 : 0 ≤ a) (h1 : a < 9223372036854775808) (hb0 : 0 ≤ b) (hb : b < 32) (hm : a % 32 = 0) : bits .or .i64 a b = a + b := i64_join 5 a b h0 h1 hb0 hb (by omega) hm
theorem i64_or16 (a b : Int) (h0 : 0 ≤ a) (h1 : a < 9223372036854775808) (hb0 : 0 ≤ b) (hb : b < 16) (hm : a % 16 = 0) : bits .or .i64 a b = a + b := i64_join 4 a b h0 h1 hb0 hb (by omega) hm
theorem u8_and63 (n : Int) (h0 : 0 ≤ n) (h1 : n < 256) : bits .and .u8 n 63 = n % 64 := by
  rw [u8_and n 63 h0 h1 (by omega) (by omega)]
  show ((n.toNat &&& 63 : Nat) : Int) = _
  rw [nat_mask6]; omega

end Go.Proofs.YtiheagkgpbkkfaaDoor.Utf

/-
  Walks of package utf's small functions: sizeOf, secondOf, isPoint, follow, and of the reference's long.
-/
namespace Go.Proofs.YtiheagkgpbkkfaaDoor
open Go.RowKit
set_option linter.unusedVariables false


theorem sizeOf_calls (c : Int) (w : World) :
    Calls Tryd.prog 70 #[.int .u8 c] w fun e w' => e = .returned (.int .i64 (Utf.sizeOf c)) ∧ w' = w := by
  go_enter Tryd.func70, Tryd.ntmps70
  go_wp2
  all_goals (go_ret; refine ⟨ret_int ?_, rfl⟩)
  · exact (Utf.sizeOf_1 (by omega)).symm
  · exact (Utf.sizeOf_0 (by omega) (by omega)).symm
  · exact (Utf.sizeOf_2 (by omega) (by omega)).symm
  · exact (Utf.sizeOf_3 (by omega) (by omega)).symm
  · exact (Utf.sizeOf_4 (by omega) (by omega)).symm
  · exact (Utf.sizeOf_5 (by omega)).symm

theorem ret_two {k k' : IntKind} {a b c d : Int} (h : a = b) (h' : c = d) : Ending.returned (.tuple #[.int k a, .int k' c]) = .returned (.tuple #[.int k b, .int k' d]) := by rw [h, h']

theorem secondOf_calls (c : Int) (w : World) :
    Calls Tryd.prog 74 #[.int .u8 c] w fun e w' => e = .returned (.tuple #[.int .u8 (Utf.lo2 c), .int .u8 (Utf.hi2 c)]) ∧ w' = w := by
  go_enter Tryd.func74, Tryd.ntmps74
  go_wp2
  all_goals (go_ret2; refine ⟨ret_two ?_ ?_, rfl⟩)
  all_goals (simp only [beq_iff_eq, beq_eq_false_iff_ne, ne_eq] at *; first | unfold Utf.lo2 | unfold Utf.hi2);
  all_goals ( repeat (first | rw [if_pos (by omega)] | rw [if_neg (by omega)]))



theorem long_calls (c : Int) (w : World) :
    Calls Tryd.prog 35 #[.int .u8 c] w fun e w' => e = .returned (.int .i64 (Utf.long c)) ∧ w' = w := by
  go_enter Tryd.func35, Tryd.ntmps35
  go_wp2
  all_goals (go_ret; refine ⟨ret_int ?_, rfl⟩; unfold Utf.long; repeat (first | rw [if_pos (by omega)] | rw [if_neg (by omega)]))
end Go.Proofs.YtiheagkgpbkkfaaDoor

/-
  Walks of package utf's firstPart and join.
-/
namespace Go.Proofs.YtiheagkgpbkkfaaDoor
open Go.RowKit
set_option linter.unusedVariables false

/-- The n cells from place 'off' of block b on hold the bytes that f tells. -/
def Bs (w : World) (b off n : Nat) (f : Nat → Int) : Prop := (∀ i, i < n → w.cell? ⟨b, off + i, none⟩ = some (.int .u8 (f i))) ∧ ∀ i, 0 ≤ f i ∧ f i ≤ 255

set_option maxHeartbeats 400000 in
theorem firstPart_calls (b off n cap : Nat) (f : Nat → Int) (size : Int) (w : World) (h0 : 0 ≤ size) (h1 : size ≤ 4) (hne : 0 < n) (hl : n ≤ maxLen) (hb : Bs w b off n f) :
    Calls Tryd.prog 71 #[.slice (some ⟨b, off, none⟩) n cap, .int .i64 size] w fun e w' => (∃ k : Nat, e = .returned (.int .i64 k) ∧ Utf.FP f (min size.toNat n) k) ∧ w' = w := by
  obtain ⟨hc, hz⟩ := hb
  unfold maxLen at hl
  obtain ⟨m, rfl⟩ := Int.eq_ofNat_of_zero_le h0
  rw [Int.toNat_natCast]
  have hc0 := hc 0 hne
  simp only [Nat.add_zero] at hc0
  have hne' : (0 : Int) < n := by omega
  by_cases hA : m ≤ n
  · rw [Nat.min_eq_left hA]
    have hA' : (m : Int) ≤ n := by omega
    go_enter Tryd.func71, Tryd.ntmps71
    go_wp2
    go_loop [6] (fun i => ∃ k : Nat, 1 ≤ k ∧ (k ≤ m ∨ k = 1) ∧ i = .int .i64 k ∧ ∀ j, 1 ≤ j → j < k → Utf.okAt f j) (fun i => m - (intOf i).toNat)
    case atStart => exact ⟨1, Nat.le_refl _, Or.inr rfl, rfl, fun j a b => absurd b (by omega)⟩
    case round =>
      obtain ⟨k, hk, hkm, rfl, hrel⟩ := hrel
      have HR := hid hrel
      clear hrel
      by_cases hlt : k < m
      · have hck := hc k (by omega)
        have hlt' : (k : Int) < m := by omega
        have hkl : (k : Int) < n := by omega
        have hzk := hz k
        clear hkm
        by_cases hk1 : k = 1
        · subst hk1
          go_wp2_with (go_at_call 74; refine (secondOf_calls _ _).mono ?_; rintro e w' ⟨rfl, rfl⟩)
          · go_ret
            exact ⟨⟨1, rfl, Utf.fp_stop1 hlt (by omega)⟩, rfl⟩
          · exact ⟨⟨2, by omega, by omega, rfl, Utf.ok_snoc HR.out (Utf.okAt_one.2 (by omega))⟩, by simp [intOf]; omega⟩
          · go_ret
            exact ⟨⟨1, rfl, Utf.fp_stop1 hlt (by omega)⟩, rfl⟩
        · have hk1' : ((k : Int) == 1) = false := by simp; omega
          go_wp2
          · go_ret
            exact ⟨⟨k, rfl, Utf.fp_stop hk hlt hk1 HR.out (by omega)⟩, rfl⟩
          · exact ⟨⟨k + 1, by omega, by omega, by go_num, Utf.ok_snoc HR.out ((Utf.okAt_more hk1).2 (by omega))⟩, by simp [intOf]; omega⟩
          · go_ret
            exact ⟨⟨k, rfl, Utf.fp_stop hk hlt hk1 HR.out (by omega)⟩, rfl⟩
      · have hlt' : ¬ (k : Int) < m := by omega
        go_wp2
        go_ret
        exact ⟨⟨m, rfl, Utf.fp_end (by omega) HR.out⟩, rfl⟩
  · rw [Nat.min_eq_right (by omega)]
    have hA' : (n : Int) < m := by omega
    go_enter Tryd.func71, Tryd.ntmps71
    go_wp2
    go_loop [6] (fun i => ∃ k : Nat, 1 ≤ k ∧ (k ≤ n ∨ k = 1) ∧ i = .int .i64 k ∧ ∀ j, 1 ≤ j → j < k → Utf.okAt f j) (fun i => n - (intOf i).toNat)
    case atStart => exact ⟨1, Nat.le_refl _, Or.inr rfl, rfl, fun j a b => absurd b (by omega)⟩
    case round =>
      obtain ⟨k, hk, hkm, rfl, hrel⟩ := hrel
      have HR := hid hrel
      clear hrel
      by_cases hlt : k < n
      · have hck := hc k (by omega)
        have hlt' : (k : Int) < n := by omega
        have hkl : (k : Int) < n := by omega
        have hzk := hz k
        clear hkm
        by_cases hk1 : k = 1
        · subst hk1
          go_wp2_with (go_at_call 74; refine (secondOf_calls _ _).mono ?_; rintro e w' ⟨rfl, rfl⟩)
          · go_ret
            exact ⟨⟨1, rfl, Utf.fp_stop1 hlt (by omega)⟩, rfl⟩
          · exact ⟨⟨2, by omega, by omega, rfl, Utf.ok_snoc HR.out (Utf.okAt_one.2 (by omega))⟩, by simp [intOf]; omega⟩
          · go_ret
            exact ⟨⟨1, rfl, Utf.fp_stop1 hlt (by omega)⟩, rfl⟩
        · have hk1' : ((k : Int) == 1) = false := by simp; omega
          go_wp2
          · go_ret
            exact ⟨⟨k, rfl, Utf.fp_stop hk hlt hk1 HR.out (by omega)⟩, rfl⟩
          · exact ⟨⟨k + 1, by omega, by omega, by go_num, Utf.ok_snoc HR.out ((Utf.okAt_more hk1).2 (by omega))⟩, by simp [intOf]; omega⟩
          · go_ret
            exact ⟨⟨k, rfl, Utf.fp_stop hk hlt hk1 HR.out (by omega)⟩, rfl⟩
      · have hlt' : ¬ (k : Int) < n := by omega
        go_wp2
        go_ret
        exact ⟨⟨n, rfl, Utf.fp_end (by omega) HR.out⟩, rfl⟩
end Go.Proofs.YtiheagkgpbkkfaaDoor

/-
  The walk of package utf's join.
-/
namespace Go.Proofs.YtiheagkgpbkkfaaDoor
open Go.RowKit
set_option linter.unusedVariables false

theorem Utf.jn_step (p : Int) (f : Nat → Int) (k : Nat) (h0 : 0 ≤ Utf.jn p f k) (h1 : Utf.jn p f k ≤ 67108863) :
    bits .or .i64 (Utf.jn p f k * 64) (f (k + 1) % 64) = Utf.jn p f (k + 1) := by
  rw [Utf.i64_or64 _ _ (by omega) (by omega) (by omega) (by omega) (by omega)]
  show _ = 64 * Utf.jn p f k + f (k + 1) % 64
  omega

set_option maxHeartbeats 400000 in
theorem join_calls (b off n cap : Nat) (f : Nat → Int) (w : World) (h1 : 1 ≤ n) (h4 : n ≤ 4) (hcap : n ≤ cap) (hm : cap ≤ maxLen) (hb : Bs w b off n f) :
    Calls Tryd.prog 72 #[.slice (some ⟨b, off, none⟩) n cap] w fun e w' => e = .returned (.int .i64 (Utf.jn (Utf.p0 n (f 0)) f (n - 1))) ∧ w' = w := by
  obtain ⟨hc, hz⟩ := hb
  unfold maxLen at hm
  have hz0 := hz 0
  have hc0 := hc 0 (by omega)
  simp only [Nat.add_zero] at hc0
  have hpb := Utf.p0_bd n (f 0) (by omega) (by omega)
  have hjb := Utf.jn_bd _ f hpb.1 hpb.2
  obtain rfl | rfl | rfl | rfl : n = 1 ∨ n = 2 ∨ n = 3 ∨ n = 4 := by omega
  · by_cases hcap1 : cap = 1
    all_goals
      go_enter Tryd.func72, Tryd.ntmps72
      go_wp2
      refine wp_loop_rounds 1 ?_
      rw [rounds_succ]
      go_wp2
      go_ret
      exact ⟨rfl, rfl⟩
  · go_enter Tryd.func72, Tryd.ntmps72
    go_wp2
    go_loop [3, 21] (fun p i => ∃ k : Nat, k ≤ 1 ∧ i = .int .i64 k ∧ p = .int .i64 (Utf.jn (Utf.p0 2 (f 0)) f k)) (fun _ i => 1 - (intOf i).toNat)
    case atStart => exact ⟨0, by omega, rfl, congrArg (Value.int .i64) (Utf.i64_and31 (f 0) (by omega) (by omega))⟩
    case round =>
      obtain ⟨k, hk, rfl, rfl⟩ := hrel
      have hj := hjb k (by omega)
      have hzk := hz (k + 1)
      by_cases hlt : k < 1
      · have hlt' : (k : Int) < 1 := by omega
        have hck := hc (k + 1) (by omega)
        have hck' : w.cell? ⟨b, off + 1 + k, none⟩ = some (.int .u8 (f (k + 1))) := by rw [← hck]; congr 2; omega
        clear hck
        go_wp2
        exact ⟨⟨k + 1, by omega, by go_num, congrArg (Value.int .i64) (Utf.jn_step _ _ k hj.1 hj.2)⟩, by simp [intOf]; omega⟩
      · have hlt' : ¬ (k : Int) < 1 := by omega
        obtain rfl : k = 1 := by omega
        go_wp2
        go_ret
        exact ⟨rfl, rfl⟩
  · go_enter Tryd.func72, Tryd.ntmps72
    go_wp2
    go_loop [3, 21] (fun p i => ∃ k : Nat, k ≤ 2 ∧ i = .int .i64 k ∧ p = .int .i64 (Utf.jn (Utf.p0 3 (f 0)) f k)) (fun _ i => 2 - (intOf i).toNat)
    case atStart => exact ⟨0, by omega, rfl, congrArg (Value.int .i64) (Utf.i64_and15 (f 0) (by omega) (by omega))⟩
    case round =>
      obtain ⟨k, hk, rfl, rfl⟩ := hrel
      have hj := hjb k (by omega)
      have hzk := hz (k + 1)
      by_cases hlt : k < 2
      · have hlt' : (k : Int) < 2 := by omega
        have hck := hc (k + 1) (by omega)
        have hck' : w.cell? ⟨b, off + 1 + k, none⟩ = some (.int .u8 (f (k + 1))) := by rw [← hck]; congr 2; omega
        clear hck
        go_wp2
        exact ⟨⟨k + 1, by omega, by go_num, congrArg (Value.int .i64) (Utf.jn_step _ _ k hj.1 hj.2)⟩, by simp [intOf]; omega⟩
      · have hlt' : ¬ (k : Int) < 2 := by omega
        obtain rfl : k = 2 := by omega
        go_wp2
        go_ret
        exact ⟨rfl, rfl⟩
  · go_enter Tryd.func72, Tryd.ntmps72
    go_wp2
    go_loop [3, 21] (fun p i => ∃ k : Nat, k ≤ 3 ∧ i = .int .i64 k ∧ p = .int .i64 (Utf.jn (Utf.p0 4 (f 0)) f k)) (fun _ i => 3 - (intOf i).toNat)
    case atStart => exact ⟨0, by omega, rfl, congrArg (Value.int .i64) (Utf.i64_and7 (f 0) (by omega) (by omega))⟩
    case round =>
      obtain ⟨k, hk, rfl, rfl⟩ := hrel
      have hj := hjb k (by omega)
      have hzk := hz (k + 1)
      by_cases hlt : k < 3
      · have hlt' : (k : Int) < 3 := by omega
        have hck := hc (k + 1) (by omega)
        have hck' : w.cell? ⟨b, off + 1 + k, none⟩ = some (.int .u8 (f (k + 1))) := by rw [← hck]; congr 2; omega
        clear hck
        go_wp2
        exact ⟨⟨k + 1, by omega, by go_num, congrArg (Value.int .i64) (Utf.jn_step _ _ k hj.1 hj.2)⟩, by simp [intOf]; omega⟩
      · have hlt' : ¬ (k : Int) < 3 := by omega
        obtain rfl : k = 3 := by omega
        go_wp2
        go_ret
        exact ⟨rfl, rfl⟩
end Go.Proofs.YtiheagkgpbkkfaaDoor

/-
  The walk of package utf's Decode.
-/
namespace Go.Proofs.YtiheagkgpbkkfaaDoor
open Go.RowKit
set_option linter.unusedVariables false

/-- Three results as one value. -/
def D3 (d : Int × Int × Bool) : Value := .tuple #[.int .i64 d.1, .int .i64 d.2.1, .bool d.2.2]

set_option maxHeartbeats 400000 in
theorem decode_none (a : Option Addr) (cap : Nat) (fin : Bool) (w : World) :
    Calls Tryd.prog 67 #[.slice a 0 cap, .bool fin] w fun e w' => e = .returned (.tuple #[.int .i64 (-1), .int .i64 0, .bool true]) ∧ w' = w := by
  go_enter Tryd.func67, Tryd.ntmps67
  go_wp2
  go_ret3
  exact ⟨rfl, rfl⟩

set_option maxHeartbeats 400000 in
theorem decode_some (b off n cap : Nat) (f : Nat → Int) (fin : Bool) (w : World) (hn : 0 < n) (hcap : n ≤ cap) (hm : cap ≤ maxLen) (hb : Bs w b off n f) :
    Calls Tryd.prog 67 #[.slice (some ⟨b, off, none⟩) n cap, .bool fin] w fun e w' => e = .returned (D3 (Utf.dec f n fin)) ∧ w' = w := by
  have hc0 := hb.1 0 hn
  simp only [Nat.add_zero] at hc0
  have Hb := hid hb
  clear hb
  have hsb := Utf.sizeOf_bd (f 0)
  obtain ⟨s, hs⟩ := Int.eq_ofNat_of_zero_le hsb.1
  have Hs := hid hs
  have hs4 : s ≤ 4 := by omega
  clear hsb hs
  unfold maxLen at hm
  have hn' : (0 : Int) < n := by omega
  have hn0 : ((n : Int) == 0) = false := by simp; omega
  go_enter Tryd.func67, Tryd.ntmps67
  go_wp2_with fail
  refine (sizeOf_calls _ _).mono ?_
  rintro e w' ⟨rfl, rfl⟩
  rw [Hs.out]
  go_wp2_with fail
  refine (firstPart_calls b off n cap f s _ (by omega) (by omega) hn (by unfold maxLen; omega) Hb.out).mono ?_
  rintro e w' ⟨⟨k, rfl, hfp⟩, rfl⟩
  rw [Int.toNat_natCast] at hfp
  have Hk := hid (Utf.fp_eq f _ k (by omega) hfp).symm
  clear hfp
  by_cases hA : 0 < s ∧ k = s
  · obtain ⟨hA1, rfl⟩ := hA
    have hkn : k ≤ n := by have := Utf.fpN_le f (min k n); rw [Hk.out] at this; omega
    have HD := hid (Utf.dec_yes (fin := fin) hn Hs.out hA1 Hk.out)
    have hA1' : (0 : Int) < k := by omega
    have hkn' : (k : Int) ≤ n := by omega
    go_wp2_with fail
    refine (join_calls b off k cap f _ (by omega) (by omega) (by omega) (by unfold maxLen; omega) ⟨fun i hi => Hb.out.1 i (by omega), Hb.out.2⟩).mono ?_
    rintro e w' ⟨rfl, rfl⟩
    go_wp2_with fail
    go_ret3
    exact ⟨by rw [HD.out]; rfl, rfl⟩
  · have hA' : ¬ (0 < s ∧ Utf.fpN f (min s n) = s) := by rw [Hk.out]; exact hA
    have HD := hid (fun hk => Utf.dec_more hn Hs.out hA' hk)
    have HD' := hid (fun hk => Utf.dec_no (fin := fin) hn Hs.out hA' hk)
    have HA := hid hA
    clear hA hA'
    by_cases hs0 : 0 < s
    · have hs0' : (0 : Int) < s := by omega
      have hks : ((k : Int) == s) = false := by have := HA.out; simp; omega
      by_cases hkn : k = n
      · subst hkn
        cases fin
        · go_wp2_with fail
          go_ret3
          exact ⟨by rw [HD.out Hk.out]; rfl, rfl⟩
        · go_wp2_with fail
          go_ret3
          exact ⟨by rw [HD'.out (by simp)]; rfl, rfl⟩
      · have hkn' : ((k : Int) == n) = false := by simp; omega
        go_wp2_with fail
        go_ret3
        exact ⟨by rw [HD'.out (by rw [Hk.out]; omega)]; rfl, rfl⟩
    · obtain rfl : s = 0 := by omega
      have hk0 : k = 0 := by have := Hk.out; rw [Nat.zero_min] at this; exact this.symm
      subst hk0
      have hkn' : ((0 : Int) == n) = false := by simp; omega
      go_wp2_with fail
      go_ret3
      exact ⟨by rw [HD'.out (by rw [Hk.out]; omega)]; rfl, rfl⟩
end Go.Proofs.YtiheagkgpbkkfaaDoor

/-
  package utf's Decode, for whatever slice of bytes.
-/
namespace Go.Proofs.YtiheagkgpbkkfaaDoor
open Go.RowKit
set_option linter.unusedVariables false

theorem decode_calls (a : Option Addr) (n cap : Nat) (f : Nat → Int) (fin : Bool) (w : World) (h : Sl w a n cap f) :
    Calls Tryd.prog 67 #[.slice a n cap, .bool fin] w fun e w' => e = .returned (D3 (Utf.dec f n fin)) ∧ w' = w := by
  by_cases hn : n = 0
  · subst hn
    refine (decode_none a cap fin w).mono ?_
    rintro e w' ⟨rfl, rfl⟩
    exact ⟨by simp [Utf.dec, D3], rfl⟩
  · obtain ⟨b, off, rfl, _, hc⟩ := h.at' (by omega)
    exact decode_some b off n cap f fin w (by omega) h.le h.mx ⟨hc, h.bd⟩

theorem Tryd.info8 : (Tryd.prog.info? 5).map (fun i => (i.zero, i.size, i.bytes)) = some (some (.int .u8 0), 1, 1) := by kernel_rfl

/-- A slice of bytes that came in, as the row's frame tells it. -/
theorem Sl.ofRow {w : World} {a : Option Addr} {len cap : Nat} {zs : List Int}
    (h : (a = none ∧ len = 0 ∧ cap = 0 ∧ zs = []) ∨ ∃ x, a = some x ∧ len ≤ cap ∧ cap ≤ maxLen ∧ zs.length = cap ∧ (∀ i, i < zs.length → w.cell? (x.add i) = some (.int .u8 (zs.getD i 0))) ∧ ∀ n ∈ zs, (Lit.int .u8 n).wf = true) :
    Sl w a len cap (fun i => zs.getD i 0) := by
  rcases h with ⟨rfl, rfl, rfl, rfl⟩ | ⟨x, rfl, hl, hm, hz, hcell, hwz⟩
  · exact ⟨Nat.le_refl _, Nat.zero_le _, fun i => by simp, fun _ => ⟨rfl, rfl⟩, fun h => absurd h (by omega)⟩
  · refine ⟨hl, hm, fun i => ?_, fun h => absurd h (by simp), fun h0 => ?_⟩
    · by_cases hi : i < zs.length
      · have hw := hwz (zs.getD i 0) (by rw [List.getD_eq_getElem?_getD, List.getElem?_eq_getElem hi]; exact List.getElem_mem hi)
        simp [Lit.wf, IntKind.min, IntKind.max, IntKind.signed, IntKind.bits] at hw
        simpa using hw
      · rw [List.getD_eq_getElem?_getD, List.getElem?_eq_none (by omega)]; simp
    · obtain ⟨b, off, spot⟩ := x
      have hs : spot = none := by
        have := World.cell?_spot (hcell 0 (by omega))
        simpa [Addr.add] using this
      subst hs
      have hc : ∀ i, i < len → w.cell? ⟨b, off + i, none⟩ = some (.int .u8 (zs.getD i 0)) := fun i hi => by
        have := hcell i (by omega)
        rwa [Addr.add_lit] at this
      exact ⟨b, off, rfl, World.block_lt_of_cell? _ _ (hc 0 h0), hc⟩
end Go.Proofs.YtiheagkgpbkkfaaDoor

/-
  The walks of package utf's Points and Rest.
-/
namespace Go.Proofs.YtiheagkgpbkkfaaDoor
open Go.RowKit
set_option linter.unusedVariables false

def ivals (L : List Int) : List Value := L.map (Value.int .i64)
theorem ivals_length (L : List Int) : (ivals L).length = L.length := by simp [ivals]
theorem ivals_snoc (L : List Int) (x : Int) : ivals L ++ [.int .i64 x] = ivals (L ++ [x]) := by simp [ivals]
theorem Tryd.info64 : (Tryd.prog.info? 3).map (fun i => (i.zero, i.size, i.bytes)) = some (some (.int .i64 0), 1, 8) := by kernel_rfl

theorem Sl.drop {w : World} {b off n cap : Nat} {f : Nat → Int} (h : Sl w (some ⟨b, off, none⟩) n cap f) (k : Nat) (hk : k < n) : Sl w (some ⟨b, off + k, none⟩) (n - k) (cap - k) (Utf.sh f k) := by
  have h1 := h.le
  have h2 := h.mx
  refine ⟨by omega, by omega, fun i => h.bd _, fun e => absurd e (by simp), fun h0 => ?_⟩
  obtain ⟨b', off', e, hlt, hc⟩ := h.at' (by omega)
  cases e
  refine ⟨b, off + k, rfl, hlt, fun i hi => ?_⟩
  rw [Nat.add_assoc]
  exact hc (k + i) (by omega)

/-- What the loop of Points keeps. -/
def PtsRel (w : World) (f : Nat → Int) (n : Nat) (wr : World) (v : Value) (pos : Nat) : Prop :=
  ∃ L : List Int, wr.ownsRow w.heap.size 3 1 v L.length (ivals L) ∧ Below w.heap.size w wr ∧ L ++ Utf.pts (Utf.sh f pos) (n - pos) = Utf.pts f n ∧ L.length ≤ pos


set_option maxHeartbeats 1000000 in
theorem rest_calls (a : Option Addr) (n cap : Nat) (f : Nat → Int) (w : World) (h : Sl w a n cap f) :
    Calls Tryd.prog 66 #[.slice a n cap] w fun e w' => e = .returned (.int .i64 (Utf.rest f n)) ∧ w' = w := by
  have H := hid h
  have hle := h.le
  have hmx := h.mx
  unfold maxLen at hmx
  clear h
  go_enter Tryd.func66, Tryd.ntmps66
  go_wp2_with fail
  go_loopg [3] n (fun k at' wr => ∃ pos : Nat, k = n - pos ∧ pos ≤ n ∧ at' = .int .i64 pos ∧ wr = w ∧ Hid (Utf.rest (Utf.sh f pos) (n - pos) = Utf.rest f n))
  case atStart => exact ⟨0, by omega, by omega, rfl, rfl, by rw [Utf.sh_zero]; rfl⟩
  case round =>
    obtain ⟨pos, rfl, hpos, rfl, rfl, HR⟩ := hrel
    by_cases hlt : pos < n
    · obtain ⟨b, off, rfl, _, _⟩ := H.out.at' (by omega)
      have hlt' : (pos : Int) < n := by omega
      have hlc : (pos : Int) < cap := by omega
      have SL := hid (H.out.drop pos hlt)
      cases hm : (Utf.dec (Utf.sh f pos) (n - pos) false).2.2
      · have hst := Utf.step_false (f := Utf.sh f pos) (n := n - pos) (by omega) hm
        have hr := Utf.rest_step (Utf.sh f pos) (n := n - pos) (by omega) hm
        obtain ⟨⟨p, m, mo⟩, hd⟩ : ∃ d, Utf.dec (Utf.sh f pos) (n - pos) false = d := ⟨_, rfl⟩
        rw [hd] at hst hm
        generalize Utf.stepN (Utf.sh f pos) (n - pos) false = st at hst hr
        obtain ⟨h1, h2, hm'⟩ := hst
        simp only at hm' hm
        subst hm
        subst hm'
        have HD := hid hd
        have HP := hid hr
        clear hd hr
        go_wp2_with fail
        refine (decode_calls _ _ _ _ false _ SL.out).mono ?_
        rintro e wr ⟨rfl, rfl⟩
        rw [HD.out]
        unfold D3
        go_wp2_with fail
        go_roundg (n - (pos + st))
        case measure => omega
        case rel =>
          refine ⟨pos + st, rfl, by omega, by go_num, rfl, ?_⟩
          show _ = _
          rw [← HR.out, HP.out, Utf.sh_sh, show n - (pos + st) = n - pos - st by omega]
      · have hr := Utf.rest_more (Utf.sh f pos) (n := n - pos) (by omega) hm
        obtain ⟨⟨p, m, mo⟩, hd⟩ : ∃ d, Utf.dec (Utf.sh f pos) (n - pos) false = d := ⟨_, rfl⟩
        rw [hd] at hm
        simp only at hm
        subst hm
        have HD := hid hd
        have HP := hid (HR.out.symm.trans hr)
        clear hd hr
        go_wp2_with fail
        refine (decode_calls _ _ _ _ false _ SL.out).mono ?_
        rintro e wr ⟨rfl, rfl⟩
        rw [HD.out]
        unfold D3
        go_wp2_with fail
        go_ret
        exact ⟨ret_int (by rw [HP.out]; omega), rfl⟩
    · obtain rfl : pos = n := by omega
      have HP := hid (HR.out.symm.trans (by rw [Nat.sub_self, Utf.rest_zero]))
      go_wp2_with fail
      go_ret
      exact ⟨ret_int (by rw [HP.out]; rfl), rfl⟩
end Go.Proofs.YtiheagkgpbkkfaaDoor
