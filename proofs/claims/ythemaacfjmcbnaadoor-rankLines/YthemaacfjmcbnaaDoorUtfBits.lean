/-
  Bitwise and, or on Go's int where nothing is negative: their arithmetic faces.
-/
import Derived.Laws.BitsAllLaws
import Derived.Laws.Bits128
namespace Go.Proofs.YthemaacfjmcbnaaDoor.Utf

theorem wrap_small (n : Nat) (h : n < 9223372036854775808) : IntKind.i64.wrap (n : Int) = (n : Int) := by rw [IntKind.wrap_i64]; omega
theorem i64_and_nat (a b : Nat) (ha : a < 9223372036854775808) (hb : b < 9223372036854775808) : bits .and .i64 (a : Int) (b : Int) = ((a &&& b : Nat) : Int) := by
  show IntKind.i64.wrap ((BitVec.ofInt 64 (a : Int) &&& BitVec.ofInt 64 (b : Int)).toNat : Int) = _
  rw [BitVec.toNat_and, ofInt_u64 a (by omega), ofInt_u64 b (by omega)]
  exact wrap_small _ (Nat.lt_of_le_of_lt Nat.and_le_left ha)
theorem i64_or_nat (a b : Nat) (ha : a < 9223372036854775808) (hb : b < 9223372036854775808) : bits .or .i64 (a : Int) (b : Int) = ((a ||| b : Nat) : Int) := by
  show IntKind.i64.wrap ((BitVec.ofInt 64 (a : Int) ||| BitVec.ofInt 64 (b : Int)).toNat : Int) = _
  rw [BitVec.toNat_or, ofInt_u64 a (by omega), ofInt_u64 b (by omega)]
  exact wrap_small _ (Nat.or_lt_two_pow (n := 63) ha hb)

theorem i64_mask (i : Nat) (n : Int) (h0 : 0 ≤ n) (h1 : n < 9223372036854775808) (hi : 2 ^ i - 1 < 9223372036854775808) : bits .and .i64 n ((2 ^ i - 1 : Nat) : Int) = n % ((2 ^ i : Nat) : Int) := by
  obtain ⟨m, rfl⟩ := Int.eq_ofNat_of_zero_le h0
  rw [i64_and_nat m _ (by omega) hi, Nat.and_two_pow_sub_one_eq_mod]
  rfl
theorem i64_join (i : Nat) (a b : Int) (h0 : 0 ≤ a) (h1 : a < 9223372036854775808) (hb0 : 0 ≤ b) (hb : b < ((2 ^ i : Nat) : Int)) (hb' : b < 9223372036854775808) (hm : a % ((2 ^ i : Nat) : Int) = 0) : bits .or .i64 a b = a + b := by
  obtain ⟨m, rfl⟩ := Int.eq_ofNat_of_zero_le h0
  obtain ⟨k, rfl⟩ := Int.eq_ofNat_of_zero_le hb0
  rw [i64_or_nat m k (by omega) (by omega), nat_join i m k (by exact_mod_cast hm) (by exact_mod_cast hb)]
  rfl
theorem i64_and63 (n : Int) (h0 : 0 ≤ n) (h1 : n < 9223372036854775808) : bits .and .i64 n 63 = n % 64 := i64_mask 6 n h0 h1 (by decide)
theorem i64_and31 (n : Int) (h0 : 0 ≤ n) (h1 : n < 9223372036854775808) : bits .and .i64 n 31 = n % 32 := i64_mask 5 n h0 h1 (by decide)
theorem i64_and15 (n : Int) (h0 : 0 ≤ n) (h1 : n < 9223372036854775808) : bits .and .i64 n 15 = n % 16 := i64_mask 4 n h0 h1 (by decide)
theorem i64_and7 (n : Int) (h0 : 0 ≤ n) (h1 : n < 9223372036854775808) : bits .and .i64 n 7 = n % 8 := i64_mask 3 n h0 h1 (by decide)
theorem i64_or64 (a b : Int) (h0 : 0 ≤ a) (h1 : a < 9223372036854775808) (hb0 : 0 ≤ b) (hb : b < 64) (hm : a % 64 = 0) : bits .or .i64 a b = a + b := i64_join 6 a b h0 h1 hb0 hb (by omega) hm
theorem i64_or32 (a b : Int) (h0 : 0 ≤ a) (h1 : a < 9223372036854775808) (hb0 : 0 ≤ b) (hb : b < 32) (hm : a % 32 = 0) : bits .or .i64 a b = a + b := i64_join 5 a b h0 h1 hb0 hb (by omega) hm
theorem i64_or16 (a b : Int) (h0 : 0 ≤ a) (h1 : a < 9223372036854775808) (hb0 : 0 ≤ b) (hb : b < 16) (hm : a % 16 = 0) : bits .or .i64 a b = a + b := i64_join 4 a b h0 h1 hb0 hb (by omega) hm
theorem u8_and63 (n : Int) (h0 : 0 ≤ n) (h1 : n < 256) : bits .and .u8 n 63 = n % 64 := by
  rw [u8_and n 63 h0 h1 (by omega) (by omega)]
  show ((n.toNat &&& 63 : Nat) : Int) = _
  rw [nat_mask6]; omega

end Go.Proofs.YthemaacfjmcbnaaDoor.Utf
