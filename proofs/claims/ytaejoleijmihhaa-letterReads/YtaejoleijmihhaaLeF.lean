/-
  The walk of fixed: the chapter's examples.
-/
import Derived.Test.YtaejoleijmihhaaLeW2
import Derived.Test.YtaejoleijmihhaaSb
import Derived.Lib.SlBytesConst
import Derived.Lib.SmallJoins
namespace Go.Proofs.Ytaejoleijmihhaa
open Go.RowKit
set_option linter.unusedVariables false

def sA_B : ByteArray := ⟨#[97, 32, 98]⟩
def fA_B (i : Nat) : Int := if i = 0 then 97 else if i = 1 then 32 else 98
theorem fA_B_bd (i : Nat) : 0 ≤ fA_B i ∧ fA_B i ≤ 255 := by
  unfold fA_B
  split
  · omega
  · split <;> omega
theorem bad_A_B : Le.Bad (bytesF sA_B) 3 1 := by
  refine ⟨by omega, ⟨fun _ => 97, 1, ⟨fun _ => by omega, by decide +kernel, fun i hi => ?_⟩⟩, by decide +kernel⟩
  obtain rfl : i = 0 := by omega
  decide +kernel
theorem wr_A_B : str (Le.wrF fA_B 3) (Le.wrN fA_B 3) = ⟨#[97, 196, 160, 98]⟩ := by decide +kernel

theorem Sl.threeM {w : World} {x0 x1 x2 : Int} (t : TypeId) (fr : Nat × Nat) (g : Nat → Int) (n : Nat) (hn : n ≤ 3) (hg : ∀ i, 0 ≤ g i ∧ g i ≤ 255) (h0 : x0 = g 0) (h1 : x1 = g 1) (h2 : x2 = g 2) : Sl (w.alloc (.cells #[.int .u8 x0, .int .u8 x1, .int .u8 x2] t fr)) (some ⟨w.heap.size, 0, none⟩) n 3 g := by
  refine ⟨hn, by decide, hg, fun e => absurd e (by simp), fun _ => ⟨w.heap.size, 0, rfl, by simp, fun i hi => ?_⟩⟩
  subst h0 h1 h2
  rw [World.cell?_alloc_mark]
  obtain rfl | rfl | rfl : i = 0 ∨ i = 1 ∨ i = 2 := by omega
  all_goals rfl

set_option maxRecDepth 100000 in
set_option maxHeartbeats 1600000 in
theorem fixed04_calls (w : World) : Calls Try.prog 11 #[] w fun e w' => e = .returned (.bool true) ∧ Below w.heap.size w w' := by
  have hd := fun w => lread_calls sA_B 3 (bytesF sA_B) w (by omega) (St.any sA_B)
  have HD := hid hd
  clear hd
  unfold sA_B at HD
  have kc := fun (w : World) (C : Array Value) (n c : Nat) => Lib.run_convert_bytes_const (P := Try.prog) w 28 5 C n c Try.underlying28 Try.underlying5
  go_enter Try.func11, Try.ntmps11
  go_wp2_with fail
  refine (HD.out _).mono ?_
  rintro e w1 ⟨ho, hb1⟩
  obtain rfl : e = .returned (.tuple #[.slice none 0 0, .int .i64 1, .bool false]) := by
    rcases ho with ⟨g, k, hg, _⟩ | ⟨p, hp, rfl⟩
    · exact (Le.bad_not hg bad_A_B).elim
    · rw [Le.bad_one hp bad_A_B]; rfl
  have B1 := hid hb1
  clear ho hb1 HD
  go_wp2_with fail
  refine (lof_calls 32 (by omega) (by omega) _).mono ?_
  rintro e w1 ⟨rfl, rfl⟩
  rw [l32]
  go_wp2_with fail
  refine (lwrite_calls _ 3 3 fA_B _ (by omega) (Sl.threeM (x0 := 97) (x1 := 32) (x2 := 98) _ _ _ 3 (by omega) fA_B_bd rfl rfl rfl)).mono ?_
  rintro e w2 ⟨rfl, hb2⟩
  rw [wr_A_B]
  have hs := B1.out.size
  have B2 := hid ((B1.out.alloc hs _).trans (hb2.mono (by simp; omega)))
  clear hb2
  go_wp2_with fail
  go_ret
  exact ⟨rfl, B2.out⟩
end Go.Proofs.Ytaejoleijmihhaa
