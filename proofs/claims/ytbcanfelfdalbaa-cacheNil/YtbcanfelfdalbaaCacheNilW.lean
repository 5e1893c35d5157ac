/-
  Walk of the law CacheNil.
-/
import Derived.Test.YtbcanfelfdalbaaCaF
namespace Go.Proofs.Ytbcanfelfdalbaa
open Go.RowKit
set_option linter.unusedVariables false
set_option maxRecDepth 100000 in
set_option maxHeartbeats 6400000 in
theorem cacheNil_calls (s : ByteArray) {w : World} {a : Option Addr} {n c : Nat} {xs : Pr.Row} (R : Ir w a n c xs) :
    Calls Try.prog 6 #[.string s, .slice a n c] w fun e w' => e = .returned (.bool true) ∧ Below w.heap.size w w' := by
  clear R
  go_enter Try.func6, Try.ntmps6
  go_wp2_with fail
  refine (cput_nil w s a n c).mono ?_
  rintro e w1 ⟨rfl, b1⟩
  have B1 := hid b1
  clear b1
  go_wp2_with fail
  refine (cget_nil w1 s).mono ?_
  rintro e w2 ⟨rfl, b2⟩
  have B2 := hid (B1.out.trans (b2.mono B1.out.size))
  clear b2 B1
  go_wp2_with fail
  refine (ccounts_nil w2).mono ?_
  rintro e w3 ⟨rfl, b3⟩
  have B3 := hid (B2.out.trans (b3.mono B2.out.size))
  clear b3 B2
  go_wp2_with fail
  refine (cafixed_calls w3).mono ?_
  rintro e w4 ⟨rfl, b4⟩
  have B4 := hid (B3.out.trans (b4.mono B3.out.size))
  clear b4 B3
  go_wp2_with fail
  refine (clen_nil w4).mono ?_
  rintro e w5 ⟨rfl, b5⟩
  have B5 := hid (B4.out.trans (b5.mono B4.out.size))
  clear b5 B4
  go_wp2_with fail
  refine (croom_nil w5).mono ?_
  rintro e w6 ⟨rfl, b6⟩
  have B6 := hid (B5.out.trans (b6.mono B5.out.size))
  clear b6 B5
  go_wp2_with fail
  refine (ckeys_nil w6).mono ?_
  rintro e w7 ⟨⟨a7, c7, rfl⟩, b7⟩
  have B7 := hid (B6.out.trans (b7.mono B6.out.size))
  clear b7 B6
  go_wp2_with fail
  go_ret
  exact ⟨rfl, B7.out⟩
end Go.Proofs.Ytbcanfelfdalbaa
