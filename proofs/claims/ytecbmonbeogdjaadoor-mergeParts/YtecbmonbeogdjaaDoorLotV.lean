/-
  Several texts in one: UtfR1, UtfR2, UtfR3, UtfR4, UtfR5.
-/
import Derived.Test.YtecbmonbeogdjaaDoorLotU
import Derived.Test.YtecbmonbeogdjaaDoorLotA
/-
  Walks of the reference's functions on strings: bits.
-/
namespace Go.Proofs.YtecbmonbeogdjaaDoor
open Go.RowKit
set_option linter.unusedVariables false

theorem Utf.tail_snoc {f : Nat → Int} {k : Nat} (hr : ∀ j, 1 ≤ j → j < k → Utf.tail f j) (h : Utf.tail f k) : ∀ j, 1 ≤ j → j < k + 1 → Utf.tail f j := fun j a b => by
  by_cases e : j = k
  · subst e; exact h
  · exact hr j a (by omega)

end Go.Proofs.YtecbmonbeogdjaaDoor

/-
  The walk of the reference's Encode.
-/
namespace Go.Proofs.YtecbmonbeogdjaaDoor
open Go.RowKit
set_option linter.unusedVariables false

set_option maxHeartbeats 400000 in
theorem refEncode_no (p : Int) (w : World) (h : Utf.isPt p = false) :
    Calls Tryd.prog 30 #[.int .i64 p] w fun e w' => e = .returned (.tuple #[.string ⟨#[]⟩, .bool false]) ∧ w' = w := by
  have h' : ¬ (0 ≤ p ∧ p ≤ 1114111 ∧ (p < 55296 ∨ 57343 < p)) := by rw [← Utf.isPt_iff, h]; simp
  clear h
  by_cases h0 : p < 0
  · clear h'
    go_enter Tryd.func30, Tryd.ntmps30
    go_wp2
    go_ret2
    exact ⟨rfl, rfl⟩
  · by_cases h1 : 1114111 < p
    · clear h'
      go_enter Tryd.func30, Tryd.ntmps30
      go_wp2
      go_ret2
      exact ⟨rfl, rfl⟩
    · have h2 : 55296 ≤ p := by omega
      have h3 : p ≤ 57343 := by omega
      clear h'
      go_enter Tryd.func30, Tryd.ntmps30
      go_wp2
      go_ret2
      exact ⟨rfl, rfl⟩

set_option maxHeartbeats 400000 in
theorem refEncode_1 (p : Int) (w : World) (h0 : 0 ≤ p) (h1 : p ≤ 1114111) (h2 : p < 55296 ∨ 57343 < p) (a : p < 128) :
    Calls Tryd.prog 30 #[.int .i64 p] w fun e w' => e = .returned (.tuple #[.string (str (Utf.encF p) (Utf.encN p)), .bool true]) ∧ Below w.heap.size w w' := by
  have b : p < 55296 := by omega
  have hcv := fun w => run_convert_new (P := Tryd.prog) w 28 5 9 Tryd.underlying28 Tryd.underlying5 Tryd.underlying9 [p] 1 rfl 5
  simp only [List.map_cons, List.map_nil] at hcv
  have HE := hid (Utf.enc_1 a)
  clear h2
  go_enter Tryd.func30, Tryd.ntmps30
  go_wp2
  go_ret2
  refine ⟨?_, (Below.refl _ _).alloc (Nat.le_refl _) _⟩
  rw [HE.out.1, str_list (Utf.encL p) (Utf.encF p) 1 (by rw [HE.out.2]; rfl) (fun _ _ => rfl), HE.out.2]; rfl
set_option maxHeartbeats 400000 in
theorem refEncode_2 (p : Int) (w : World) (h0 : 0 ≤ p) (h1 : p ≤ 1114111) (h2 : p < 55296 ∨ 57343 < p) (a : ¬ p < 128) (b : p < 2048) :
    Calls Tryd.prog 30 #[.int .i64 p] w fun e w' => e = .returned (.tuple #[.string (str (Utf.encF p) (Utf.encN p)), .bool true]) ∧ Below w.heap.size w w' := by
  have c : p < 55296 := by omega
  have hcv := fun w => run_convert_new (P := Tryd.prog) w 28 5 9 Tryd.underlying28 Tryd.underlying5 Tryd.underlying9 [192 + p / 64, 128 + p % 64] 2 rfl 5
  simp only [List.map_cons, List.map_nil] at hcv
  have HE := hid (Utf.enc_2 (by omega) b)
  clear h2
  go_enter Tryd.func30, Tryd.ntmps30
  go_wp2
  go_ret2
  refine ⟨?_, (Below.refl _ _).alloc (Nat.le_refl _) _⟩
  rw [HE.out.1, str_list (Utf.encL p) (Utf.encF p) 2 (by rw [HE.out.2]; rfl) (fun _ _ => rfl), HE.out.2]; rfl
set_option maxHeartbeats 400000 in
theorem refEncode_3 (p : Int) (w : World) (h0 : 0 ≤ p) (h1 : p ≤ 1114111) (h2 : p < 55296 ∨ 57343 < p) (a : ¬ p < 128) (b : ¬ p < 2048) (c : p < 65536) :
    Calls Tryd.prog 30 #[.int .i64 p] w fun e w' => e = .returned (.tuple #[.string (str (Utf.encF p) (Utf.encN p)), .bool true]) ∧ Below w.heap.size w w' := by
  have hcv := fun w => run_convert_new (P := Tryd.prog) w 28 5 9 Tryd.underlying28 Tryd.underlying5 Tryd.underlying9 [224 + p / 4096, 128 + p / 64 % 64, 128 + p % 64] 3 rfl 5
  simp only [List.map_cons, List.map_nil] at hcv
  have HE := hid (Utf.enc_3 (by omega) c)
  rcases h2 with h2 | h2
  all_goals
    go_enter Tryd.func30, Tryd.ntmps30
    go_wp2
    go_ret2
    refine ⟨?_, (Below.refl _ _).alloc (Nat.le_refl _) _⟩
    rw [HE.out.1, str_list (Utf.encL p) (Utf.encF p) 3 (by rw [HE.out.2]; rfl) (fun _ _ => rfl), HE.out.2]; rfl
set_option maxHeartbeats 400000 in
theorem refEncode_4 (p : Int) (w : World) (h0 : 0 ≤ p) (h1 : p ≤ 1114111) (h2 : p < 55296 ∨ 57343 < p) (a : ¬ p < 128) (b : ¬ p < 2048) (c : ¬ p < 65536) :
    Calls Tryd.prog 30 #[.int .i64 p] w fun e w' => e = .returned (.tuple #[.string (str (Utf.encF p) (Utf.encN p)), .bool true]) ∧ Below w.heap.size w w' := by
  have d : 57343 < p := by omega
  have hcv := fun w => run_convert_new (P := Tryd.prog) w 28 5 9 Tryd.underlying28 Tryd.underlying5 Tryd.underlying9 [240 + p / 262144, 128 + p / 4096 % 64, 128 + p / 64 % 64, 128 + p % 64] 4 rfl 5
  simp only [List.map_cons, List.map_nil] at hcv
  have HE := hid (Utf.enc_4 (p := p) (by omega))
  clear h2
  go_enter Tryd.func30, Tryd.ntmps30
  go_wp2
  go_ret2
  refine ⟨?_, (Below.refl _ _).alloc (Nat.le_refl _) _⟩
  rw [HE.out.1, str_list (Utf.encL p) (Utf.encF p) 4 (by rw [HE.out.2]; rfl) (fun _ _ => rfl), HE.out.2]; rfl

theorem refEncode_yes (p : Int) (w : World) (h : Utf.isPt p = true) :
    Calls Tryd.prog 30 #[.int .i64 p] w fun e w' => e = .returned (.tuple #[.string (str (Utf.encF p) (Utf.encN p)), .bool true]) ∧ Below w.heap.size w w' := by
  rw [Utf.isPt_iff] at h
  obtain ⟨h0, h1, h2⟩ := h
  by_cases a : p < 128
  · exact refEncode_1 p w h0 h1 h2 a
  · by_cases b : p < 2048
    · exact refEncode_2 p w h0 h1 h2 a b
    · by_cases c : p < 65536
      · exact refEncode_3 p w h0 h1 h2 a b c
      · exact refEncode_4 p w h0 h1 h2 a b c
end Go.Proofs.YtecbmonbeogdjaaDoor

/-
  The walk of the reference's whole.
-/
namespace Go.Proofs.YtecbmonbeogdjaaDoor
open Go.RowKit
set_option linter.unusedVariables false

end Go.Proofs.YtecbmonbeogdjaaDoor

/-
  The walk of the reference's might.
-/
namespace Go.Proofs.YtecbmonbeogdjaaDoor
open Go.RowKit
set_option linter.unusedVariables false

theorem St.one (c : UInt8) : St ⟨#[c]⟩ 1 (fun _ => (c.toNat : Int)) :=
  ⟨rfl, fun i h => by
    have hi : i = 0 := by have : i < 1 := h; omega
    subst hi; rfl, fun _ => by have := c.toNat_lt; omega⟩
theorem cat_step {f : Nat → Int} {m k : Nat} {c : Int} (h : m ≤ k) {s t : ByteArray} (hs : St s k (cat f m fun _ => c)) (ht : St t 1 fun _ => c) : St (s ++ t) (k + 1) (cat f m fun _ => c) := by
  refine (hs.append ht).congr hs.bd (fun i hi => ?_)
  by_cases hik : i < k
  · rw [cat_lt hik]
  · rw [cat_ge (by omega), cat_ge (by omega)]

end Go.Proofs.YtecbmonbeogdjaaDoor

/-
  The walk of the reference's Decode.
-/
namespace Go.Proofs.YtecbmonbeogdjaaDoor
open Go.RowKit
set_option linter.unusedVariables false

/-- Behind a call that wrote nothing old, old cells and their marks read as they did. -/
theorem Old.both {v v' : World} (h : Below v.heap.size v v') : (∀ k j, k < v.heap.size → v'.cell? ⟨k, j, none⟩ = v.cell? ⟨k, j, none⟩) ∧ ∀ k j, k < v.heap.size → v'.frozen? ⟨k, j, none⟩ = v.frozen? ⟨k, j, none⟩ := by
  constructor <;> intro k j hk
  · exact h.cell (p := ⟨k, j, none⟩) hk
  · exact h.frozen (p := ⟨k, j, none⟩) hk

/-- The reference's D. -/
def DA (d : Int × Int × Bool) : Value := .agg #[.int .i64 d.1, .int .i64 d.2.1, .bool d.2.2]



end Go.Proofs.YtecbmonbeogdjaaDoor
