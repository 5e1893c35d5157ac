/-
  The walk of package utf's Encode.
-/
import Derived.Test.YtaejoleijmihhaaUtfW6
import Derived.Test.YtaejoleijmihhaaUtfMathD
namespace Go.Proofs.Ytaejoleijmihhaa
open Go.RowKit
set_option linter.unusedVariables false

set_option maxHeartbeats 400000 in
theorem encode_no (p : Int) (w : World) (h : Utf.isPt p = false) :
    Calls Try.prog 18 #[.int .i64 p] w fun e w' => e = .returned (.tuple #[.slice none 0 0, .bool false]) ∧ w' = w := by
  have H := hid h
  clear h
  go_enter Try.func18, Try.ntmps18
  go_wp2_with fail
  refine (isPoint_calls _ _).mono ?_
  rintro e w ⟨rfl, rfl⟩
  rw [H.out]
  go_wp2_with fail
  go_ret2
  exact ⟨rfl, rfl⟩

/-- The world behind: one block more, with the code point's bytes. -/
def encW (w : World) (t : TypeId) (l : List Int) : World := w.alloc (.cells (l.map (Value.int .u8)).toArray t)

set_option maxHeartbeats 400000 in
theorem encode_1 (p : Int) (w : World) (h : Utf.isPt p = true) (h0 : 0 ≤ p) (h1 : p ≤ 1114111) (a : p < 128) :
    Calls Try.prog 18 #[.int .i64 p] w fun e w' => e = .returned (.tuple #[.slice (some ⟨w.heap.size, 0, none⟩) (Utf.encN p) (Utf.encN p), .bool true]) ∧ w' = encW w 5 (Utf.encL p) := by
  have H := hid h
  clear h
  have HE := hid (Utf.enc_1 (p := p) a)
  go_enter Try.func18, Try.ntmps18
  go_wp2_with fail
  refine (isPoint_calls _ _).mono ?_
  rintro e w ⟨rfl, rfl⟩
  rw [H.out]
  go_wp2_with fail
  go_ret2
  exact ⟨by rw [HE.out.1]; rfl, by rw [HE.out.2]; rfl⟩

set_option maxHeartbeats 400000 in
theorem encode_2 (p : Int) (w : World) (h : Utf.isPt p = true) (h0 : 0 ≤ p) (h1 : p ≤ 1114111) (a : ¬ p < 128) (b : p < 2048) :
    Calls Try.prog 18 #[.int .i64 p] w fun e w' => e = .returned (.tuple #[.slice (some ⟨w.heap.size, 0, none⟩) (Utf.encN p) (Utf.encN p), .bool true]) ∧ w' = encW w 5 (Utf.encL p) := by
  have H := hid h
  clear h
  have hor : bits .or .i64 192 (p / 64) = 192 + p / 64 := Utf.i64_or32 _ _ (by omega) (by omega) (by omega) (by omega) (by omega)
  have HE := hid (Utf.enc_2 (p := p) (by omega) b)
  go_enter Try.func18, Try.ntmps18
  go_wp2_with fail
  refine (isPoint_calls _ _).mono ?_
  rintro e w ⟨rfl, rfl⟩
  rw [H.out]
  go_wp2_with fail
  refine (follow_calls (p) (by omega) (by omega) _).mono ?_
  rintro e w ⟨rfl, rfl⟩
  go_wp2_with fail
  go_ret2
  exact ⟨by rw [HE.out.1]; rfl, by rw [HE.out.2]; rfl⟩

set_option maxHeartbeats 400000 in
theorem encode_3 (p : Int) (w : World) (h : Utf.isPt p = true) (h0 : 0 ≤ p) (h1 : p ≤ 1114111) (a : ¬ p < 128) (b : ¬ p < 2048) (c : p < 65536) :
    Calls Try.prog 18 #[.int .i64 p] w fun e w' => e = .returned (.tuple #[.slice (some ⟨w.heap.size, 0, none⟩) (Utf.encN p) (Utf.encN p), .bool true]) ∧ w' = encW w 5 (Utf.encL p) := by
  have H := hid h
  clear h
  have hor : bits .or .i64 224 (p / 4096) = 224 + p / 4096 := Utf.i64_or16 _ _ (by omega) (by omega) (by omega) (by omega) (by omega)
  have HE := hid (Utf.enc_3 (p := p) (by omega) c)
  go_enter Try.func18, Try.ntmps18
  go_wp2_with fail
  refine (isPoint_calls _ _).mono ?_
  rintro e w ⟨rfl, rfl⟩
  rw [H.out]
  go_wp2_with fail
  refine (follow_calls (p / 64) (by omega) (by omega) _).mono ?_
  rintro e w ⟨rfl, rfl⟩
  go_wp2_with fail
  refine (follow_calls (p) (by omega) (by omega) _).mono ?_
  rintro e w ⟨rfl, rfl⟩
  go_wp2_with fail
  go_ret2
  exact ⟨by rw [HE.out.1]; rfl, by rw [HE.out.2]; rfl⟩

set_option maxHeartbeats 400000 in
theorem encode_4 (p : Int) (w : World) (h : Utf.isPt p = true) (h0 : 0 ≤ p) (h1 : p ≤ 1114111) (a : ¬ p < 128) (b : ¬ p < 2048) (c : ¬ p < 65536) :
    Calls Try.prog 18 #[.int .i64 p] w fun e w' => e = .returned (.tuple #[.slice (some ⟨w.heap.size, 0, none⟩) (Utf.encN p) (Utf.encN p), .bool true]) ∧ w' = encW w 5 (Utf.encL p) := by
  have H := hid h
  clear h
  have hor : bits .or .i64 240 (p / 262144) = 240 + p / 262144 := Utf.i64_or16 _ _ (by omega) (by omega) (by omega) (by omega) (by omega)
  have HE := hid (Utf.enc_4 (p := p) (by omega))
  go_enter Try.func18, Try.ntmps18
  go_wp2_with fail
  refine (isPoint_calls _ _).mono ?_
  rintro e w ⟨rfl, rfl⟩
  rw [H.out]
  go_wp2_with fail
  refine (follow_calls (p / 4096) (by omega) (by omega) _).mono ?_
  rintro e w ⟨rfl, rfl⟩
  go_wp2_with fail
  refine (follow_calls (p / 64) (by omega) (by omega) _).mono ?_
  rintro e w ⟨rfl, rfl⟩
  go_wp2_with fail
  refine (follow_calls (p) (by omega) (by omega) _).mono ?_
  rintro e w ⟨rfl, rfl⟩
  go_wp2_with fail
  go_ret2
  exact ⟨by rw [HE.out.1]; rfl, by rw [HE.out.2]; rfl⟩

theorem encode_yes (p : Int) (w : World) (h : Utf.isPt p = true) :
    Calls Try.prog 18 #[.int .i64 p] w fun e w' => e = .returned (.tuple #[.slice (some ⟨w.heap.size, 0, none⟩) (Utf.encN p) (Utf.encN p), .bool true]) ∧ w' = encW w 5 (Utf.encL p) := by
  have hp := (Utf.isPt_iff p).1 h
  by_cases a : p < 128
  · exact encode_1 p w h hp.1 hp.2.1 a
  · by_cases b : p < 2048
    · exact encode_2 p w h hp.1 hp.2.1 a b
    · by_cases c : p < 65536
      · exact encode_3 p w h hp.1 hp.2.1 a b c
      · exact encode_4 p w h hp.1 hp.2.1 a b c

theorem encW_below (w : World) (t : TypeId) (l : List Int) : Below w.heap.size w (encW w t l) := (Below.refl _ _).alloc (Nat.le_refl _) _
theorem encW_size (w : World) (t : TypeId) (l : List Int) : (encW w t l).heap.size = w.heap.size + 1 := by simp [encW]
/-- The bytes that Encode answers, as a slice. -/
theorem encW_sl (w : World) (t : TypeId) {p : Int} (h : Utf.isPt p = true) : Sl (encW w t (Utf.encL p)) (some ⟨w.heap.size, 0, none⟩) (Utf.encN p) (Utf.encN p) (Utf.encF p) := by
  have hp := (Utf.isPt_iff p).1 h
  have he := Utf.enc_ok h
  refine ⟨Nat.le_refl _, by unfold maxLen; omega, Utf.encF_bd p hp.1 hp.2.1, fun h => absurd h (by simp), fun _ => ⟨_, _, rfl, by rw [encW_size]; omega, fun i hi => ?_⟩⟩
  unfold encW
  rw [World.cell?_alloc_new, Nat.zero_add]
  have hi' : i < (Utf.encL p).length := by omega
  simp [hi', Utf.encF]
end Go.Proofs.Ytaejoleijmihhaa
