/-
  The walk of the reference's Encode.
-/
import Derived.Test.YtaejoleijmihhaaUtfR1
namespace Go.Proofs.Ytaejoleijmihhaa
open Go.RowKit
set_option linter.unusedVariables false

set_option maxHeartbeats 400000 in
theorem refEncode_no (p : Int) (w : World) (h : Utf.isPt p = false) :
    Calls Try.prog 20 #[.int .i64 p] w fun e w' => e = .returned (.tuple #[.string ⟨#[]⟩, .bool false]) ∧ w' = w := by
  have h' : ¬ (0 ≤ p ∧ p ≤ 1114111 ∧ (p < 55296 ∨ 57343 < p)) := by rw [← Utf.isPt_iff, h]; simp
  clear h
  by_cases h0 : p < 0
  · clear h'
    go_enter Try.func20, Try.ntmps20
    go_wp2
    go_ret2
    exact ⟨rfl, rfl⟩
  · by_cases h1 : 1114111 < p
    · clear h'
      go_enter Try.func20, Try.ntmps20
      go_wp2
      go_ret2
      exact ⟨rfl, rfl⟩
    · have h2 : 55296 ≤ p := by omega
      have h3 : p ≤ 57343 := by omega
      clear h'
      go_enter Try.func20, Try.ntmps20
      go_wp2
      go_ret2
      exact ⟨rfl, rfl⟩

set_option maxHeartbeats 400000 in
theorem refEncode_1 (p : Int) (w : World) (h0 : 0 ≤ p) (h1 : p ≤ 1114111) (h2 : p < 55296 ∨ 57343 < p) (a : p < 128) :
    Calls Try.prog 20 #[.int .i64 p] w fun e w' => e = .returned (.tuple #[.string (str (Utf.encF p) (Utf.encN p)), .bool true]) ∧ Below w.heap.size w w' := by
  have b : p < 55296 := by omega
  have hcv := fun w => run_convert_new (P := Try.prog) w 28 5 9 Try.underlying28 Try.underlying5 Try.underlying9 [p] 1 rfl 5
  simp only [List.map_cons, List.map_nil] at hcv
  have HE := hid (Utf.enc_1 a)
  clear h2
  go_enter Try.func20, Try.ntmps20
  go_wp2
  go_ret2
  refine ⟨?_, (Below.refl _ _).alloc (Nat.le_refl _) _⟩
  rw [HE.out.1, str_list (Utf.encL p) (Utf.encF p) 1 (by rw [HE.out.2]; rfl) (fun _ _ => rfl), HE.out.2]; rfl
set_option maxHeartbeats 400000 in
theorem refEncode_2 (p : Int) (w : World) (h0 : 0 ≤ p) (h1 : p ≤ 1114111) (h2 : p < 55296 ∨ 57343 < p) (a : ¬ p < 128) (b : p < 2048) :
    Calls Try.prog 20 #[.int .i64 p] w fun e w' => e = .returned (.tuple #[.string (str (Utf.encF p) (Utf.encN p)), .bool true]) ∧ Below w.heap.size w w' := by
  have c : p < 55296 := by omega
  have hcv := fun w => run_convert_new (P := Try.prog) w 28 5 9 Try.underlying28 Try.underlying5 Try.underlying9 [192 + p / 64, 128 + p % 64] 2 rfl 5
  simp only [List.map_cons, List.map_nil] at hcv
  have HE := hid (Utf.enc_2 (by omega) b)
  clear h2
  go_enter Try.func20, Try.ntmps20
  go_wp2
  go_ret2
  refine ⟨?_, (Below.refl _ _).alloc (Nat.le_refl _) _⟩
  rw [HE.out.1, str_list (Utf.encL p) (Utf.encF p) 2 (by rw [HE.out.2]; rfl) (fun _ _ => rfl), HE.out.2]; rfl
set_option maxHeartbeats 400000 in
theorem refEncode_3 (p : Int) (w : World) (h0 : 0 ≤ p) (h1 : p ≤ 1114111) (h2 : p < 55296 ∨ 57343 < p) (a : ¬ p < 128) (b : ¬ p < 2048) (c : p < 65536) :
    Calls Try.prog 20 #[.int .i64 p] w fun e w' => e = .returned (.tuple #[.string (str (Utf.encF p) (Utf.encN p)), .bool true]) ∧ Below w.heap.size w w' := by
  have hcv := fun w => run_convert_new (P := Try.prog) w 28 5 9 Try.underlying28 Try.underlying5 Try.underlying9 [224 + p / 4096, 128 + p / 64 % 64, 128 + p % 64] 3 rfl 5
  simp only [List.map_cons, List.map_nil] at hcv
  have HE := hid (Utf.enc_3 (by omega) c)
  rcases h2 with h2 | h2
  all_goals
    go_enter Try.func20, Try.ntmps20
    go_wp2
    go_ret2
    refine ⟨?_, (Below.refl _ _).alloc (Nat.le_refl _) _⟩
    rw [HE.out.1, str_list (Utf.encL p) (Utf.encF p) 3 (by rw [HE.out.2]; rfl) (fun _ _ => rfl), HE.out.2]; rfl
set_option maxHeartbeats 400000 in
theorem refEncode_4 (p : Int) (w : World) (h0 : 0 ≤ p) (h1 : p ≤ 1114111) (h2 : p < 55296 ∨ 57343 < p) (a : ¬ p < 128) (b : ¬ p < 2048) (c : ¬ p < 65536) :
    Calls Try.prog 20 #[.int .i64 p] w fun e w' => e = .returned (.tuple #[.string (str (Utf.encF p) (Utf.encN p)), .bool true]) ∧ Below w.heap.size w w' := by
  have d : 57343 < p := by omega
  have hcv := fun w => run_convert_new (P := Try.prog) w 28 5 9 Try.underlying28 Try.underlying5 Try.underlying9 [240 + p / 262144, 128 + p / 4096 % 64, 128 + p / 64 % 64, 128 + p % 64] 4 rfl 5
  simp only [List.map_cons, List.map_nil] at hcv
  have HE := hid (Utf.enc_4 (p := p) (by omega))
  clear h2
  go_enter Try.func20, Try.ntmps20
  go_wp2
  go_ret2
  refine ⟨?_, (Below.refl _ _).alloc (Nat.le_refl _) _⟩
  rw [HE.out.1, str_list (Utf.encL p) (Utf.encF p) 4 (by rw [HE.out.2]; rfl) (fun _ _ => rfl), HE.out.2]; rfl

theorem refEncode_yes (p : Int) (w : World) (h : Utf.isPt p = true) :
    Calls Try.prog 20 #[.int .i64 p] w fun e w' => e = .returned (.tuple #[.string (str (Utf.encF p) (Utf.encN p)), .bool true]) ∧ Below w.heap.size w w' := by
  rw [Utf.isPt_iff] at h
  obtain ⟨h0, h1, h2⟩ := h
  by_cases a : p < 128
  · exact refEncode_1 p w h0 h1 h2 a
  · by_cases b : p < 2048
    · exact refEncode_2 p w h0 h1 h2 a b
    · by_cases c : p < 65536
      · exact refEncode_3 p w h0 h1 h2 a b c
      · exact refEncode_4 p w h0 h1 h2 a b c
end Go.Proofs.Ytaejoleijmihhaa
