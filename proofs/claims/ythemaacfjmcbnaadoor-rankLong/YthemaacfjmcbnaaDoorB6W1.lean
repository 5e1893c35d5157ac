/-
  Walks of package base64's bitsOf and of what it calls.
-/
import Derived.Test.YthemaacfjmcbnaaDoorChecked
import Derived.Test.YthemaacfjmcbnaaDoorBase
import Derived.Test.YthemaacfjmcbnaaDoorB6Math
import Derived.Test.YthemaacfjmcbnaaDoorUtfBits
import Derived.Laws.Externs
namespace Go.Proofs.YthemaacfjmcbnaaDoor
open Go.RowKit
set_option linter.unusedVariables false

/-- The 64 signs. -/
def signsB : ByteArray := ⟨#[65, 66, 67, 68, 69, 70, 71, 72, 73, 74, 75, 76, 77, 78, 79, 80, 81, 82, 83, 84, 85, 86, 87, 88, 89, 90, 97, 98, 99, 100, 101, 102, 103, 104, 105, 106, 107, 108, 109, 110, 111, 112, 113, 114, 115, 116, 117, 118, 119, 120, 121, 122, 48, 49, 50, 51, 52, 53, 54, 55, 56, 57, 43, 47]⟩
theorem firstIdx_signs : ∀ k : Nat, k < 256 → firstIdx signsB k.toUInt8 = B6.val k := by decide +kernel
theorem signs_get : ∀ k : Nat, (h : k < 64) → ((signsB.data[k]'h).toNat : Int) = B6.sgn k := by decide +kernel
theorem signs_size : signsB.size = 64 := rfl

theorem run_ibs (s : ByteArray) (c : Int) (w : World) :
    (callFunc 60 #[.string s, .int .u8 c]).run Tryd.prog w = .ok (.value (.int .i64 (firstIdx s c.toNat.toUInt8))) w := by
  rw [run_callFunc_extern Tryd.func60 (by kernel_rfl) (by kernel_rfl) (by kernel_rfl) (e := Extern.BytealgIndexByte.indexByte) (by kernel_rfl), run_indexByte_string]
  rfl

theorem bitsOf_calls (c : Int) (h0 : 0 ≤ c) (h1 : c ≤ 255) (w : World) :
    Calls Tryd.prog 47 #[.int .u8 c] w fun e w' => e = .returned (.int .i64 (B6.val c)) ∧ w' = w := by
  have hv : firstIdx signsB c.toNat.toUInt8 = B6.val c := by
    obtain ⟨k, rfl⟩ := Int.eq_ofNat_of_zero_le h0
    exact firstIdx_signs k (by omega)
  have hr : ∀ w, (callFunc 60 #[.string signsB, .int .u8 c]).run Tryd.prog w = .ok (.value (.int .i64 (B6.val c))) w := fun w => by rw [run_ibs, hv]
  unfold signsB at hr
  clear hv
  go_enter Tryd.func47, Tryd.ntmps47
  go_wp2
  go_ret
  exact ⟨rfl, rfl⟩
end Go.Proofs.YthemaacfjmcbnaaDoor
