/-
  The walk of the reference's Decode.
-/
import Derived.Test.YtaejoleijmihhaaUtfR4
namespace Go.Proofs.Ytaejoleijmihhaa
open Go.RowKit
set_option linter.unusedVariables false

/-- Behind a call that wrote nothing old, old cells and their marks read as they did. -/
theorem Old.both {v v' : World} (h : Below v.heap.size v v') : (∀ k j, k < v.heap.size → v'.cell? ⟨k, j, none⟩ = v.cell? ⟨k, j, none⟩) ∧ ∀ k j, k < v.heap.size → v'.frozen? ⟨k, j, none⟩ = v.frozen? ⟨k, j, none⟩ := by
  constructor <;> intro k j hk
  · exact h.cell (p := ⟨k, j, none⟩) hk
  · exact h.frozen (p := ⟨k, j, none⟩) hk

/-- The reference's D. -/
def DA (d : Int × Int × Bool) : Value := .agg #[.int .i64 d.1, .int .i64 d.2.1, .bool d.2.2]

set_option maxHeartbeats 400000 in
theorem refDecode_empty (s : ByteArray) (f : Nat → Int) (fin : Bool) (w : World) (hS : St s 0 f) :
    Calls Try.prog 21 #[.string s, .bool fin] w fun e w' => e = .returned (.agg #[.int .i64 (-1), .int .i64 0, .bool true]) ∧ Below w.heap.size w w' := by
  have hs : s = ⟨#[]⟩ := by
    have := hS.size
    exact ByteArray.ext (Array.eq_empty_of_size_eq_zero this)
  subst hs
  go_enter Try.func21, Try.ntmps21
  go_wp2_with fail
  exact bodyPost_ret (v := .agg #[.int .i64 (-1), .int .i64 0, .bool true]) (by simp [results, Try.results21, go_sem]) rfl ⟨rfl, (Below.refl _ _).alloc (Nat.le_refl _) _⟩

set_option maxHeartbeats 400000 in
theorem refDecode_some (s : ByteArray) (m : Nat) (f : Nat → Int) (fin : Bool) (w : World) (hm : 0 < m) (hS : St s m f) (hl : m ≤ maxLen) :
    Calls Try.prog 21 #[.string s, .bool fin] w fun e w' => e = .returned (DA (Utf.dec f m fin)) ∧ Below w.heap.size w w' := by
  have HS := hid hS
  have hsz := hS.size
  have hget := hS.get
  have hz := hS.bd
  clear hS
  have hl' := hl
  unfold maxLen at hl'
  have hne : s.toList.isEmpty = false := by
    rw [ByteArray.toList_eq]
    cases h : s.data.toList with
    | nil => have : s.data.size = 0 := by rw [← Array.length_toList, h]; rfl
             have e : s.size = s.data.size := rfl
             omega
    | cons => rfl
  have hs0 : (0 : Int) < s.size := by omega
  have hlb := Utf.long_bd (f 0)
  obtain ⟨n, hn⟩ := Int.eq_ofNat_of_zero_le hlb.1
  have HN := hid hn
  have hn4 : n ≤ 4 := by omega
  clear hlb hn
  go_enter Try.func21, Try.ntmps21
  go_wp2_with fail
  refine (long_calls _ _).mono ?_
  rintro e W ⟨rfl, hW⟩
  rw [HN.out]
  subst hW
  by_cases hA : 0 < n
  · have hA' : (0 : Int) < n := by omega
    by_cases hB : n ≤ m
    · have hB' : (n : Int) ≤ s.size := by omega
      go_wp2_with fail
      refine (whole_calls s m n f _ (by omega) hn4 hB HS.out hl).mono ?_
      rintro e w1 ⟨⟨r, rfl, hr⟩, hb⟩
      have hout := Utf.whole_dec (fin := fin) hz hA hB HN.out hr
      clear hr
      obtain ⟨hc, hf⟩ := Old.both hb
      have hz1 : w.heap.size < w1.heap.size := by have := hb.size; simp at this; omega
      have bel : Below w.heap.size w w1 := ((Below.refl _ _).alloc (Nat.le_refl _) _).trans (hb.mono (by simp))
      by_cases h0 : 0 ≤ r
      · have HD := hid (hout.1 h0)
        clear hout
        go_wp2_with fail
        exact bodyPost_ret (v := .agg #[.int .i64 r, .int .i64 n, .bool false]) (by simp [results, Try.results21, go_sem, hc]) rfl ⟨by rw [HD.out]; rfl, (((bel.setCell (by simp) _).setCell (by simp) _).setCell (by simp) _)⟩
      · have HD := hid (hout.2 (by omega))
        clear hout
        go_wp2_with fail
        exact bodyPost_ret (v := .agg #[.int .i64 (-1), .int .i64 1, .bool false]) (by simp [results, Try.results21, go_sem, hc]) rfl ⟨by rw [HD.out]; rfl, (((bel.setCell (by simp) _).setCell (by simp) _).setCell (by simp) _)⟩
    · have hB' : ¬ (n : Int) ≤ s.size := by omega
      cases fin
      · go_wp2_with fail
        refine (might_calls s m n f _ (by omega) hn4 (by omega) HS.out).mono ?_
        rintro e w1 ⟨⟨a, b, rfl, ha, hb⟩, hW⟩
        have hd := Utf.might_dec (by omega) (by omega) HN.out ha hb
        subst hW
        clear ha hb
        cases hmb : Utf.mightB n a b
        · have HD := hid (show Utf.dec f m false = (-1, 1, false) by rw [hd, hmb]; rfl)
          clear hd
          go_wp2_with fail
          exact bodyPost_ret (v := .agg #[.int .i64 (-1), .int .i64 1, .bool false]) (by simp [results, Try.results21, go_sem]) rfl ⟨by rw [HD.out]; rfl, (Below.refl _ _).alloc (Nat.le_refl _) _⟩
        · have HD := hid (show Utf.dec f m false = (-1, 0, true) by rw [hd, hmb]; rfl)
          clear hd
          go_wp2_with fail
          exact bodyPost_ret (v := .agg #[.int .i64 (-1), .int .i64 0, .bool true]) (by simp [results, Try.results21, go_sem]) rfl ⟨by rw [HD.out]; rfl, (Below.refl _ _).alloc (Nat.le_refl _) _⟩
      · have hb : Utf.dec f m true = (-1, 1, false) := Utf.dec_short_true (by omega) (by omega) HN.out
        have HD := hid hb
        clear hb
        go_wp2_with fail
        exact bodyPost_ret (v := .agg #[.int .i64 (-1), .int .i64 1, .bool false]) (by simp [results, Try.results21, go_sem]) rfl ⟨by rw [HD.out]; rfl, (Below.refl _ _).alloc (Nat.le_refl _) _⟩
  · obtain rfl : n = 0 := by omega
    have HD := hid (Utf.dec_zero (m := m) (fin := fin) (by omega) (Utf.long_zero HN.out))
    go_wp2_with fail
    exact bodyPost_ret (v := .agg #[.int .i64 (-1), .int .i64 1, .bool false]) (by simp [results, Try.results21, go_sem]) rfl ⟨by rw [HD.out]; rfl, (Below.refl _ _).alloc (Nat.le_refl _) _⟩

theorem refDecode_calls (s : ByteArray) (m : Nat) (f : Nat → Int) (fin : Bool) (w : World) (hS : St s m f) (hl : m ≤ maxLen) :
    Calls Try.prog 21 #[.string s, .bool fin] w fun e w' => e = .returned (DA (Utf.dec f m fin)) ∧ Below w.heap.size w w' := by
  by_cases hm : m = 0
  · subst hm
    exact (refDecode_empty s f fin w hS).mono (fun e w' h => ⟨by rw [h.1]; rfl, h.2⟩)
  · exact refDecode_some s m f fin w (by omega) hS hl
end Go.Proofs.Ytaejoleijmihhaa
