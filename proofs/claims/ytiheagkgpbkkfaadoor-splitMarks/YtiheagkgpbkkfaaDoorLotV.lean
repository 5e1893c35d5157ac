/-
  Several texts in one: UtfR1, UtfR2, UtfR3, UtfR4, UtfR5, UtfP2.
-/
import Derived.Test.YtiheagkgpbkkfaaDoorLotW
import Derived.Test.YtiheagkgpbkkfaaDoorLotG
import Derived.Test.YtiheagkgpbkkfaaDoorLotU
/-
  Walks of the reference's functions on strings: bits.
-/
namespace Go.Proofs.YtiheagkgpbkkfaaDoor
open Go.RowKit
set_option linter.unusedVariables false

theorem Utf.tail_snoc {f : Nat → Int} {k : Nat} (hr : ∀ j, 1 ≤ j → j < k → Utf.tail f j) (h : Utf.tail f k) : ∀ j, 1 ≤ j → j < k + 1 → Utf.tail f j := fun j a b => by
  by_cases e : j = k
  · subst e; exact h
  · exact hr j a (by omega)

set_option maxHeartbeats 400000 in
theorem bits_calls (s : ByteArray) (m n : Nat) (f : Nat → Int) (w : World) (h1 : 1 ≤ n) (h4 : n ≤ 4) (hnm : n ≤ m) (hS : St s m f) (hl : m ≤ maxLen) :
    Calls Tryd.prog 49 #[.string s, .int .i64 n] w fun e w' => (∃ r : Int, e = .returned (.int .i64 r) ∧ Utf.BR f n r) ∧ w' = w := by
  obtain ⟨hsz, hget, hz⟩ := hS
  unfold maxLen at hl
  have hsz' : (0 : Int) < s.size := by omega
  have hz0 := hz 0
  have hjb : ∀ B : Int, 0 ≤ B → B ≤ 255 → ∀ k, k ≤ 3 → -134217728 ≤ Utf.jr (f 0 - B) f k ∧ Utf.jr (f 0 - B) f k ≤ 134217728 := fun B b0 b1 => Utf.jr_bd _ f (by omega) (by omega) hz
  obtain rfl | rfl | rfl | rfl : n = 1 ∨ n = 2 ∨ n = 3 ∨ n = 4 := by omega
  · go_enter Tryd.func49, Tryd.ntmps49
    go_wp2
    go_ret
    exact ⟨⟨f 0, rfl, Or.inr ⟨fun j a b => absurd b (by omega), by simp [Utf.base, Utf.jr]⟩⟩, rfl⟩
  · go_enter Tryd.func49, Tryd.ntmps49
    go_wp2
    go_loop [6, 7] (fun p i => ∃ k : Nat, k ≤ 1 ∧ i = .int .i64 ((k + 1 : Nat) : Int) ∧ p = .int .i64 (Utf.jr (f 0 - 192) f k) ∧ ∀ j, 1 ≤ j → j < k + 1 → Utf.tail f j) (fun _ i => 2 - (intOf i).toNat)
    case atStart => exact ⟨0, by omega, rfl, rfl, fun j a b => absurd b (by omega)⟩
    case round =>
      obtain ⟨k, hk, rfl, rfl, hrel⟩ := hrel
      have HR := hid hrel
      clear hrel
      have hj := hjb 192 (by omega) (by omega) k (by omega)
      have hzk := hz (k + 1)
      by_cases hlt : k < 1
      · have hlt' : ((k + 1 : Nat) : Int) < (2 : Nat) := by omega
        have hlt2 : ((k + 1 : Nat) : Int) < s.size := by omega
        go_wp2
        · go_ret
          exact ⟨⟨-1, rfl, Or.inl ⟨⟨k + 1, by omega, by omega, fun t => by have := t.1; have := t.2; omega⟩, rfl⟩⟩, rfl⟩
        · go_round
          case rel => exact ⟨_, _, _, ⟨k + 1, by omega, by go_num, by simp only [Utf.jr], Utf.tail_snoc HR.out ⟨by omega, by omega⟩⟩, rfl, rfl, rfl⟩
          case measure => simp [intOf]; omega
        · go_ret
          exact ⟨⟨-1, rfl, Or.inl ⟨⟨k + 1, by omega, by omega, fun t => by have := t.1; have := t.2; omega⟩, rfl⟩⟩, rfl⟩
      · have hlt' : ¬ ((k + 1 : Nat) : Int) < (2 : Nat) := by omega
        obtain rfl : k = 1 := by omega
        go_wp2
        go_ret
        exact ⟨⟨_, rfl, Or.inr ⟨HR.out, rfl⟩⟩, rfl⟩
  · go_enter Tryd.func49, Tryd.ntmps49
    go_wp2
    go_loop [6, 7] (fun p i => ∃ k : Nat, k ≤ 2 ∧ i = .int .i64 ((k + 1 : Nat) : Int) ∧ p = .int .i64 (Utf.jr (f 0 - 224) f k) ∧ ∀ j, 1 ≤ j → j < k + 1 → Utf.tail f j) (fun _ i => 3 - (intOf i).toNat)
    case atStart => exact ⟨0, by omega, rfl, rfl, fun j a b => absurd b (by omega)⟩
    case round =>
      obtain ⟨k, hk, rfl, rfl, hrel⟩ := hrel
      have HR := hid hrel
      clear hrel
      have hj := hjb 224 (by omega) (by omega) k (by omega)
      have hzk := hz (k + 1)
      by_cases hlt : k < 2
      · have hlt' : ((k + 1 : Nat) : Int) < (3 : Nat) := by omega
        have hlt2 : ((k + 1 : Nat) : Int) < s.size := by omega
        go_wp2
        · go_ret
          exact ⟨⟨-1, rfl, Or.inl ⟨⟨k + 1, by omega, by omega, fun t => by have := t.1; have := t.2; omega⟩, rfl⟩⟩, rfl⟩
        · go_round
          case rel => exact ⟨_, _, _, ⟨k + 1, by omega, by go_num, by simp only [Utf.jr], Utf.tail_snoc HR.out ⟨by omega, by omega⟩⟩, rfl, rfl, rfl⟩
          case measure => simp [intOf]; omega
        · go_ret
          exact ⟨⟨-1, rfl, Or.inl ⟨⟨k + 1, by omega, by omega, fun t => by have := t.1; have := t.2; omega⟩, rfl⟩⟩, rfl⟩
      · have hlt' : ¬ ((k + 1 : Nat) : Int) < (3 : Nat) := by omega
        obtain rfl : k = 2 := by omega
        go_wp2
        go_ret
        exact ⟨⟨_, rfl, Or.inr ⟨HR.out, rfl⟩⟩, rfl⟩
  · go_enter Tryd.func49, Tryd.ntmps49
    go_wp2
    go_loop [6, 7] (fun p i => ∃ k : Nat, k ≤ 3 ∧ i = .int .i64 ((k + 1 : Nat) : Int) ∧ p = .int .i64 (Utf.jr (f 0 - 240) f k) ∧ ∀ j, 1 ≤ j → j < k + 1 → Utf.tail f j) (fun _ i => 4 - (intOf i).toNat)
    case atStart => exact ⟨0, by omega, rfl, rfl, fun j a b => absurd b (by omega)⟩
    case round =>
      obtain ⟨k, hk, rfl, rfl, hrel⟩ := hrel
      have HR := hid hrel
      clear hrel
      have hj := hjb 240 (by omega) (by omega) k (by omega)
      have hzk := hz (k + 1)
      by_cases hlt : k < 3
      · have hlt' : ((k + 1 : Nat) : Int) < (4 : Nat) := by omega
        have hlt2 : ((k + 1 : Nat) : Int) < s.size := by omega
        go_wp2
        · go_ret
          exact ⟨⟨-1, rfl, Or.inl ⟨⟨k + 1, by omega, by omega, fun t => by have := t.1; have := t.2; omega⟩, rfl⟩⟩, rfl⟩
        · go_round
          case rel => exact ⟨_, _, _, ⟨k + 1, by omega, by go_num, by simp only [Utf.jr], Utf.tail_snoc HR.out ⟨by omega, by omega⟩⟩, rfl, rfl, rfl⟩
          case measure => simp [intOf]; omega
        · go_ret
          exact ⟨⟨-1, rfl, Or.inl ⟨⟨k + 1, by omega, by omega, fun t => by have := t.1; have := t.2; omega⟩, rfl⟩⟩, rfl⟩
      · have hlt' : ¬ ((k + 1 : Nat) : Int) < (4 : Nat) := by omega
        obtain rfl : k = 3 := by omega
        go_wp2
        go_ret
        exact ⟨⟨_, rfl, Or.inr ⟨HR.out, rfl⟩⟩, rfl⟩
end Go.Proofs.YtiheagkgpbkkfaaDoor

/-
  The walk of the reference's Encode.
-/
namespace Go.Proofs.YtiheagkgpbkkfaaDoor
open Go.RowKit
set_option linter.unusedVariables false

set_option maxHeartbeats 400000 in
theorem refEncode_no (p : Int) (w : World) (h : Utf.isPt p = false) :
    Calls Tryd.prog 50 #[.int .i64 p] w fun e w' => e = .returned (.tuple #[.string ⟨#[]⟩, .bool false]) ∧ w' = w := by
  have h' : ¬ (0 ≤ p ∧ p ≤ 1114111 ∧ (p < 55296 ∨ 57343 < p)) := by rw [← Utf.isPt_iff, h]; simp
  clear h
  by_cases h0 : p < 0
  · clear h'
    go_enter Tryd.func50, Tryd.ntmps50
    go_wp2
    go_ret2
    exact ⟨rfl, rfl⟩
  · by_cases h1 : 1114111 < p
    · clear h'
      go_enter Tryd.func50, Tryd.ntmps50
      go_wp2
      go_ret2
      exact ⟨rfl, rfl⟩
    · have h2 : 55296 ≤ p := by omega
      have h3 : p ≤ 57343 := by omega
      clear h'
      go_enter Tryd.func50, Tryd.ntmps50
      go_wp2
      go_ret2
      exact ⟨rfl, rfl⟩

set_option maxHeartbeats 400000 in
theorem refEncode_1 (p : Int) (w : World) (h0 : 0 ≤ p) (h1 : p ≤ 1114111) (h2 : p < 55296 ∨ 57343 < p) (a : p < 128) :
    Calls Tryd.prog 50 #[.int .i64 p] w fun e w' => e = .returned (.tuple #[.string (str (Utf.encF p) (Utf.encN p)), .bool true]) ∧ Below w.heap.size w w' := by
  have b : p < 55296 := by omega
  have hcv := fun w => run_convert_new (P := Tryd.prog) w 37 5 9 Tryd.underlying37 Tryd.underlying5 Tryd.underlying9 [p] 1 rfl 5
  simp only [List.map_cons, List.map_nil] at hcv
  have HE := hid (Utf.enc_1 a)
  clear h2
  go_enter Tryd.func50, Tryd.ntmps50
  go_wp2
  go_ret2
  refine ⟨?_, (Below.refl _ _).alloc (Nat.le_refl _) _⟩
  rw [HE.out.1, str_list (Utf.encL p) (Utf.encF p) 1 (by rw [HE.out.2]; rfl) (fun _ _ => rfl), HE.out.2]; rfl
set_option maxHeartbeats 400000 in
theorem refEncode_2 (p : Int) (w : World) (h0 : 0 ≤ p) (h1 : p ≤ 1114111) (h2 : p < 55296 ∨ 57343 < p) (a : ¬ p < 128) (b : p < 2048) :
    Calls Tryd.prog 50 #[.int .i64 p] w fun e w' => e = .returned (.tuple #[.string (str (Utf.encF p) (Utf.encN p)), .bool true]) ∧ Below w.heap.size w w' := by
  have c : p < 55296 := by omega
  have hcv := fun w => run_convert_new (P := Tryd.prog) w 37 5 9 Tryd.underlying37 Tryd.underlying5 Tryd.underlying9 [192 + p / 64, 128 + p % 64] 2 rfl 5
  simp only [List.map_cons, List.map_nil] at hcv
  have HE := hid (Utf.enc_2 (by omega) b)
  clear h2
  go_enter Tryd.func50, Tryd.ntmps50
  go_wp2
  go_ret2
  refine ⟨?_, (Below.refl _ _).alloc (Nat.le_refl _) _⟩
  rw [HE.out.1, str_list (Utf.encL p) (Utf.encF p) 2 (by rw [HE.out.2]; rfl) (fun _ _ => rfl), HE.out.2]; rfl
set_option maxHeartbeats 400000 in
theorem refEncode_3 (p : Int) (w : World) (h0 : 0 ≤ p) (h1 : p ≤ 1114111) (h2 : p < 55296 ∨ 57343 < p) (a : ¬ p < 128) (b : ¬ p < 2048) (c : p < 65536) :
    Calls Tryd.prog 50 #[.int .i64 p] w fun e w' => e = .returned (.tuple #[.string (str (Utf.encF p) (Utf.encN p)), .bool true]) ∧ Below w.heap.size w w' := by
  have hcv := fun w => run_convert_new (P := Tryd.prog) w 37 5 9 Tryd.underlying37 Tryd.underlying5 Tryd.underlying9 [224 + p / 4096, 128 + p / 64 % 64, 128 + p % 64] 3 rfl 5
  simp only [List.map_cons, List.map_nil] at hcv
  have HE := hid (Utf.enc_3 (by omega) c)
  rcases h2 with h2 | h2
  all_goals
    go_enter Tryd.func50, Tryd.ntmps50
    go_wp2
    go_ret2
    refine ⟨?_, (Below.refl _ _).alloc (Nat.le_refl _) _⟩
    rw [HE.out.1, str_list (Utf.encL p) (Utf.encF p) 3 (by rw [HE.out.2]; rfl) (fun _ _ => rfl), HE.out.2]; rfl
set_option maxHeartbeats 400000 in
theorem refEncode_4 (p : Int) (w : World) (h0 : 0 ≤ p) (h1 : p ≤ 1114111) (h2 : p < 55296 ∨ 57343 < p) (a : ¬ p < 128) (b : ¬ p < 2048) (c : ¬ p < 65536) :
    Calls Tryd.prog 50 #[.int .i64 p] w fun e w' => e = .returned (.tuple #[.string (str (Utf.encF p) (Utf.encN p)), .bool true]) ∧ Below w.heap.size w w' := by
  have d : 57343 < p := by omega
  have hcv := fun w => run_convert_new (P := Tryd.prog) w 37 5 9 Tryd.underlying37 Tryd.underlying5 Tryd.underlying9 [240 + p / 262144, 128 + p / 4096 % 64, 128 + p / 64 % 64, 128 + p % 64] 4 rfl 5
  simp only [List.map_cons, List.map_nil] at hcv
  have HE := hid (Utf.enc_4 (p := p) (by omega))
  clear h2
  go_enter Tryd.func50, Tryd.ntmps50
  go_wp2
  go_ret2
  refine ⟨?_, (Below.refl _ _).alloc (Nat.le_refl _) _⟩
  rw [HE.out.1, str_list (Utf.encL p) (Utf.encF p) 4 (by rw [HE.out.2]; rfl) (fun _ _ => rfl), HE.out.2]; rfl

theorem refEncode_yes (p : Int) (w : World) (h : Utf.isPt p = true) :
    Calls Tryd.prog 50 #[.int .i64 p] w fun e w' => e = .returned (.tuple #[.string (str (Utf.encF p) (Utf.encN p)), .bool true]) ∧ Below w.heap.size w w' := by
  rw [Utf.isPt_iff] at h
  obtain ⟨h0, h1, h2⟩ := h
  by_cases a : p < 128
  · exact refEncode_1 p w h0 h1 h2 a
  · by_cases b : p < 2048
    · exact refEncode_2 p w h0 h1 h2 a b
    · by_cases c : p < 65536
      · exact refEncode_3 p w h0 h1 h2 a b c
      · exact refEncode_4 p w h0 h1 h2 a b c
end Go.Proofs.YtiheagkgpbkkfaaDoor

/-
  The walk of the reference's whole.
-/
namespace Go.Proofs.YtiheagkgpbkkfaaDoor
open Go.RowKit
set_option linter.unusedVariables false

set_option maxHeartbeats 400000 in
theorem whole_calls (s : ByteArray) (m n : Nat) (f : Nat → Int) (w : World) (h1 : 1 ≤ n) (h4 : n ≤ 4) (hnm : n ≤ m) (hS : St s m f) (hl : m ≤ maxLen) :
    Calls Tryd.prog 36 #[.string s, .int .i64 n] w fun e w' => (∃ r : Int, e = .returned (.int .i64 r) ∧ Utf.WR f n r) ∧ Below w.heap.size w w' := by
  have HS := hid hS
  have hsz := hS.size
  clear hS
  have hl' := hl
  unfold maxLen at hl'
  have hn' : (n : Int) ≤ s.size := by omega
  go_enter Tryd.func36, Tryd.ntmps36
  go_wp2_with fail
  refine (bits_calls s m n f _ h1 h4 hnm HS.out hl).mono ?_
  rintro e w ⟨⟨q, rfl, hq⟩, rfl⟩
  have HQ := hid hq
  clear hq
  cases hp : Utf.isPt q
  · go_wp2_with fail
    refine (refEncode_no q _ hp).mono ?_
    rintro e w ⟨rfl, rfl⟩
    go_wp2_with fail
    go_ret
    exact ⟨⟨-1, rfl, q, HQ.out, Or.inr ⟨fun h => absurd (hp.symm.trans h.1) (by simp), rfl⟩⟩, Below.refl _ _⟩
  · go_wp2_with fail
    refine (refEncode_yes q _ hp).mono ?_
    rintro e w1 ⟨rfl, hb⟩
    have hq2 := (Utf.isPt_iff q).1 hp
    have s1 := St.of (Utf.encF_bd q hq2.1 hq2.2.1) (Utf.encN q)
    have s2 := HS.out.extract 0 n (by omega) hnm
    clear hq2
    by_cases hf : Utf.Fit f n q
    · have hX : ((str (Utf.encF q) (Utf.encN q)).toList == (s.extract 0 n).toList) = true := (s1.beq_iff s2).2 ⟨by rw [hf.2.1]; omega, fun i hi => by rw [hf.2.2 i (by rw [← hf.2.1]; exact hi), Nat.zero_add]⟩
      clear s1 s2
      have HF := hid hf
      clear hf
      go_wp2_with fail
      go_ret
      exact ⟨⟨q, rfl, q, HQ.out, Or.inl ⟨HF.out, rfl⟩⟩, hb⟩
    · have hX : ((str (Utf.encF q) (Utf.encN q)).toList == (s.extract 0 n).toList) = false := s1.beq_no s2 (fun h => hf ⟨hp, by have := h.1; omega, fun i hi => by rw [h.2 i (by have := h.1; omega), Nat.zero_add]⟩)
      clear s1 s2
      have HF := hid hf
      clear hf
      go_wp2_with fail
      go_ret
      exact ⟨⟨-1, rfl, q, HQ.out, Or.inr ⟨HF.out, rfl⟩⟩, hb⟩
end Go.Proofs.YtiheagkgpbkkfaaDoor

/-
  The walk of the reference's might.
-/
namespace Go.Proofs.YtiheagkgpbkkfaaDoor
open Go.RowKit
set_option linter.unusedVariables false

theorem St.one (c : UInt8) : St ⟨#[c]⟩ 1 (fun _ => (c.toNat : Int)) :=
  ⟨rfl, fun i h => by
    have hi : i = 0 := by have : i < 1 := h; omega
    subst hi; rfl, fun _ => by have := c.toNat_lt; omega⟩
theorem cat_step {f : Nat → Int} {m k : Nat} {c : Int} (h : m ≤ k) {s t : ByteArray} (hs : St s k (cat f m fun _ => c)) (ht : St t 1 fun _ => c) : St (s ++ t) (k + 1) (cat f m fun _ => c) := by
  refine (hs.append ht).congr hs.bd (fun i hi => ?_)
  by_cases hik : i < k
  · rw [cat_lt hik]
  · rw [cat_ge (by omega), cat_ge (by omega)]

set_option maxHeartbeats 400000 in
theorem might_calls (s : ByteArray) (m n : Nat) (f : Nat → Int) (w : World) (h1 : 1 ≤ m) (h4 : n ≤ 4) (hmn : m < n) (hS : St s m f) :
    Calls Tryd.prog 37 #[.string s, .int .i64 n] w fun e w' => (∃ a b : Int, e = .returned (.bool (Utf.mightB n a b)) ∧ Utf.BR (cat f m fun _ => 128) n a ∧ Utf.BR (cat f m fun _ => 191) n b) ∧ w' = w := by
  have hl : St s m (cat f m fun _ => 128) := hS.congr (cat_bd hS.bd (fun _ => by omega)) (fun i hi => (cat_lt hi).symm)
  have hh : St s m (cat f m fun _ => 191) := hS.congr (cat_bd hS.bd (fun _ => by omega)) (fun i hi => (cat_lt hi).symm)
  have HL := hid hl
  have HH := hid hh
  clear hl hh hS
  go_enter Tryd.func37, Tryd.ntmps37
  go_wp2_with fail
  go_loop [5, 6] (fun l h => ∃ (k : Nat) (sl sh : ByteArray), m ≤ k ∧ k ≤ n ∧ l = .string sl ∧ h = .string sh ∧ St sl k (cat f m fun _ => 128) ∧ St sh k (cat f m fun _ => 191)) (fun l _ => n - (match l with | .string x => x.size | _ => 0))
  case atStart => exact ⟨m, s, s, Nat.le_refl _, by omega, rfl, rfl, HL.out, HH.out⟩
  case round =>
    obtain ⟨k, sl, sh, hk1, hk2, rfl, rfl, hsl, hsh⟩ := hrel
    have z1 := hsl.size
    have z2 := hsh.size
    have HSL := hid hsl
    have HSH := hid hsh
    clear hsl hsh
    have q1 : (sl.size : Int) ≤ 8388608 := by omega
    have q2 : (sh.size : Int) ≤ 8388608 := by omega
    by_cases hlt : k < n
    · have hlt' : (sl.size : Int) < n := by omega
      go_wp2_with fail
      exact ⟨⟨k + 1, _, _, by omega, by omega, rfl, rfl, cat_step hk1 HSL.out (St.one 128), cat_step hk1 HSH.out (St.one 191)⟩, by simp only [ByteArray.size_append]; show n - (sl.size + 1) < n - sl.size; omega⟩
    · obtain rfl : k = n := by omega
      have hlt' : ¬ (sl.size : Int) < k := by omega
      go_wp2_with fail
      refine (bits_calls sl k k _ _ (by omega) (by omega) (Nat.le_refl _) HSL.out (by unfold maxLen; omega)).mono ?_
      rintro e w ⟨⟨a, rfl, ha⟩, rfl⟩
      have HA := hid ha
      clear ha
      go_wp2_with fail
      refine (bits_calls sh k k _ _ (by omega) (by omega) (Nat.le_refl _) HSH.out (by unfold maxLen; omega)).mono ?_
      rintro e w ⟨⟨b, rfl, hb⟩, rfl⟩
      have HB := hid hb
      clear hb
      by_cases ha : a < 0
      · go_wp2_with fail
        go_ret
        exact ⟨⟨a, b, ret_bool (by unfold Utf.mightB; rw [if_pos (Or.inl ha)]), HA.out, HB.out⟩, rfl⟩
      by_cases hb : b < 0
      · go_wp2_with fail
        go_ret
        exact ⟨⟨a, b, ret_bool (by unfold Utf.mightB; rw [if_pos (Or.inr hb)]), HA.out, HB.out⟩, rfl⟩
      have HM := hid (show Utf.mightB k a b = _ by unfold Utf.mightB; rw [if_neg (by omega)])
      obtain rfl | rfl | rfl : k = 2 ∨ k = 3 ∨ k = 4 := by omega
      all_goals
        go_wp2_with fail
        all_goals
          go_ret
          refine ⟨⟨a, b, ret_bool ?_, HA.out, HB.out⟩, rfl⟩
          rw [HM.out]
          simp only [Utf.least]
          rw [Bool.eq_iff_iff]
          simp
          try omega
end Go.Proofs.YtiheagkgpbkkfaaDoor

/-
  The walk of the reference's Decode.
-/
namespace Go.Proofs.YtiheagkgpbkkfaaDoor
open Go.RowKit
set_option linter.unusedVariables false

/-- Behind a call that wrote nothing old, old cells and their marks read as they did. -/
theorem Old.both {v v' : World} (h : Below v.heap.size v v') : (∀ k j, k < v.heap.size → v'.cell? ⟨k, j, none⟩ = v.cell? ⟨k, j, none⟩) ∧ ∀ k j, k < v.heap.size → v'.frozen? ⟨k, j, none⟩ = v.frozen? ⟨k, j, none⟩ := by
  constructor <;> intro k j hk
  · exact h.cell (p := ⟨k, j, none⟩) hk
  · exact h.frozen (p := ⟨k, j, none⟩) hk

/-- The reference's D. -/
def DA (d : Int × Int × Bool) : Value := .agg #[.int .i64 d.1, .int .i64 d.2.1, .bool d.2.2]

set_option maxHeartbeats 400000 in
theorem refDecode_empty (s : ByteArray) (f : Nat → Int) (fin : Bool) (w : World) (hS : St s 0 f) :
    Calls Tryd.prog 27 #[.string s, .bool fin] w fun e w' => e = .returned (.agg #[.int .i64 (-1), .int .i64 0, .bool true]) ∧ Below w.heap.size w w' := by
  have hs : s = ⟨#[]⟩ := by
    have := hS.size
    exact ByteArray.ext (Array.eq_empty_of_size_eq_zero this)
  subst hs
  go_enter Tryd.func27, Tryd.ntmps27
  go_wp2_with fail
  exact bodyPost_ret (v := .agg #[.int .i64 (-1), .int .i64 0, .bool true]) (by simp [results, Tryd.results27, go_sem]) rfl ⟨rfl, (Below.refl _ _).alloc (Nat.le_refl _) _⟩

set_option maxHeartbeats 400000 in
theorem refDecode_some (s : ByteArray) (m : Nat) (f : Nat → Int) (fin : Bool) (w : World) (hm : 0 < m) (hS : St s m f) (hl : m ≤ maxLen) :
    Calls Tryd.prog 27 #[.string s, .bool fin] w fun e w' => e = .returned (DA (Utf.dec f m fin)) ∧ Below w.heap.size w w' := by
  have HS := hid hS
  have hsz := hS.size
  have hget := hS.get
  have hz := hS.bd
  clear hS
  have hl' := hl
  unfold maxLen at hl'
  have hne : s.toList.isEmpty = false := by
    rw [ByteArray.toList_eq]
    cases h : s.data.toList with
    | nil => have : s.data.size = 0 := by rw [← Array.length_toList, h]; rfl
             have e : s.size = s.data.size := rfl
             omega
    | cons => rfl
  have hs0 : (0 : Int) < s.size := by omega
  have hlb := Utf.long_bd (f 0)
  obtain ⟨n, hn⟩ := Int.eq_ofNat_of_zero_le hlb.1
  have HN := hid hn
  have hn4 : n ≤ 4 := by omega
  clear hlb hn
  go_enter Tryd.func27, Tryd.ntmps27
  go_wp2_with fail
  refine (long_calls _ _).mono ?_
  rintro e W ⟨rfl, hW⟩
  rw [HN.out]
  subst hW
  by_cases hA : 0 < n
  · have hA' : (0 : Int) < n := by omega
    by_cases hB : n ≤ m
    · have hB' : (n : Int) ≤ s.size := by omega
      go_wp2_with fail
      refine (whole_calls s m n f _ (by omega) hn4 hB HS.out hl).mono ?_
      rintro e w1 ⟨⟨r, rfl, hr⟩, hb⟩
      have hout := Utf.whole_dec (fin := fin) hz hA hB HN.out hr
      clear hr
      obtain ⟨hc, hf⟩ := Old.both hb
      have hz1 : w.heap.size < w1.heap.size := by have := hb.size; simp at this; omega
      have bel : Below w.heap.size w w1 := ((Below.refl _ _).alloc (Nat.le_refl _) _).trans (hb.mono (by simp))
      by_cases h0 : 0 ≤ r
      · have HD := hid (hout.1 h0)
        clear hout
        go_wp2_with fail
        exact bodyPost_ret (v := .agg #[.int .i64 r, .int .i64 n, .bool false]) (by simp [results, Tryd.results27, go_sem, hc]) rfl ⟨by rw [HD.out]; rfl, (((bel.setCell (by simp) _).setCell (by simp) _).setCell (by simp) _)⟩
      · have HD := hid (hout.2 (by omega))
        clear hout
        go_wp2_with fail
        exact bodyPost_ret (v := .agg #[.int .i64 (-1), .int .i64 1, .bool false]) (by simp [results, Tryd.results27, go_sem, hc]) rfl ⟨by rw [HD.out]; rfl, (((bel.setCell (by simp) _).setCell (by simp) _).setCell (by simp) _)⟩
    · have hB' : ¬ (n : Int) ≤ s.size := by omega
      cases fin
      · go_wp2_with fail
        refine (might_calls s m n f _ (by omega) hn4 (by omega) HS.out).mono ?_
        rintro e w1 ⟨⟨a, b, rfl, ha, hb⟩, hW⟩
        have hd := Utf.might_dec (by omega) (by omega) HN.out ha hb
        subst hW
        clear ha hb
        cases hmb : Utf.mightB n a b
        · have HD := hid (show Utf.dec f m false = (-1, 1, false) by rw [hd, hmb]; rfl)
          clear hd
          go_wp2_with fail
          exact bodyPost_ret (v := .agg #[.int .i64 (-1), .int .i64 1, .bool false]) (by simp [results, Tryd.results27, go_sem]) rfl ⟨by rw [HD.out]; rfl, (Below.refl _ _).alloc (Nat.le_refl _) _⟩
        · have HD := hid (show Utf.dec f m false = (-1, 0, true) by rw [hd, hmb]; rfl)
          clear hd
          go_wp2_with fail
          exact bodyPost_ret (v := .agg #[.int .i64 (-1), .int .i64 0, .bool true]) (by simp [results, Tryd.results27, go_sem]) rfl ⟨by rw [HD.out]; rfl, (Below.refl _ _).alloc (Nat.le_refl _) _⟩
      · have hb : Utf.dec f m true = (-1, 1, false) := Utf.dec_short_true (by omega) (by omega) HN.out
        have HD := hid hb
        clear hb
        go_wp2_with fail
        exact bodyPost_ret (v := .agg #[.int .i64 (-1), .int .i64 1, .bool false]) (by simp [results, Tryd.results27, go_sem]) rfl ⟨by rw [HD.out]; rfl, (Below.refl _ _).alloc (Nat.le_refl _) _⟩
  · obtain rfl : n = 0 := by omega
    have HD := hid (Utf.dec_zero (m := m) (fin := fin) (by omega) (Utf.long_zero HN.out))
    go_wp2_with fail
    exact bodyPost_ret (v := .agg #[.int .i64 (-1), .int .i64 1, .bool false]) (by simp [results, Tryd.results27, go_sem]) rfl ⟨by rw [HD.out]; rfl, (Below.refl _ _).alloc (Nat.le_refl _) _⟩

theorem refDecode_calls (s : ByteArray) (m : Nat) (f : Nat → Int) (fin : Bool) (w : World) (hS : St s m f) (hl : m ≤ maxLen) :
    Calls Tryd.prog 27 #[.string s, .bool fin] w fun e w' => e = .returned (DA (Utf.dec f m fin)) ∧ Below w.heap.size w w' := by
  by_cases hm : m = 0
  · subst hm
    exact (refDecode_empty s f fin w hS).mono (fun e w' h => ⟨by rw [h.1]; rfl, h.2⟩)
  · exact refDecode_some s m f fin w (by omega) hS hl
end Go.Proofs.YtiheagkgpbkkfaaDoor

/-
  The walks of the reference's Points and Rest.
-/
namespace Go.Proofs.YtiheagkgpbkkfaaDoor
open Go.RowKit
set_option linter.unusedVariables false



theorem St.tail {s : ByteArray} {n pos st : Nat} {f : Nat → Int} (h : St s (n - pos) (Utf.sh f pos)) (h1 : st ≤ n - pos) (h2 : pos ≤ n) : St (s.extract st (n - pos)) (n - (pos + st)) (Utf.sh f (pos + st)) := by
  have := h.extract st (n - pos) h1 (Nat.le_refl _)
  rw [show n - (pos + st) = n - pos - st by omega, ← Utf.sh_sh]
  exact this
theorem cell_one_new' (w : World) (x : Value) (t : TypeId) (b : Nat) (hb : b = w.heap.size) : ∀ j u, [x][j]? = some u → (w.alloc (.cells #[x] t)).cell? ((⟨b, 0, none⟩ : Addr).add j) = some u := by
  subst hb
  exact cell_one_new w x t

set_option maxHeartbeats 1000000 in
theorem refRest_calls (s : ByteArray) (n : Nat) (f : Nat → Int) (w : World) (h : St s n f) (hn : n ≤ 100000) :
    Calls Tryd.prog 19 #[.string s] w fun e w' => e = .returned (.int .i64 (Utf.rest f n)) ∧ Below w.heap.size w w' := by
  have H := hid h
  clear h
  go_enter Tryd.func19, Tryd.ntmps19
  go_wp2_with fail
  go_loopg [0] n (fun k sv wr => ∃ (pos : Nat) (s' : ByteArray), k = n - pos ∧ pos ≤ n ∧ sv = .string s' ∧ Hid (St s' (n - pos) (Utf.sh f pos)) ∧ Below w.heap.size w wr ∧ Hid (Utf.rest (Utf.sh f pos) (n - pos) = Utf.rest f n))
  case atStart => exact ⟨0, s, by omega, by omega, rfl, by rw [Utf.sh_zero]; exact H, Below.refl _ _, by rw [Utf.sh_zero]; rfl⟩
  case round =>
    obtain ⟨pos, s', rfl, hpos, rfl, HS, hbel, HR⟩ := hrel
    have hsz := HS.out.size
    by_cases hlt : pos < n
    · have hne := HS.out.isEmpty_no (by omega)
      cases hm : (Utf.dec (Utf.sh f pos) (n - pos) false).2.2
      · have hst := Utf.step_false (f := Utf.sh f pos) (n := n - pos) (by omega) hm
        have hr := Utf.rest_step (Utf.sh f pos) (n := n - pos) (by omega) hm
        obtain ⟨⟨p, m, mo⟩, hd⟩ : ∃ d, Utf.dec (Utf.sh f pos) (n - pos) false = d := ⟨_, rfl⟩
        rw [hd] at hst hm
        generalize Utf.stepN (Utf.sh f pos) (n - pos) false = st at hst hr
        obtain ⟨h1, h2, hm'⟩ := hst
        simp only at hm' hm
        subst hm
        subst hm'
        have HD := hid hd
        have HP := hid hr
        clear hd hr
        have hst' : (st : Int) ≤ s'.size := by omega
        go_wp2_with fail
        refine (refDecode_calls _ _ _ false _ HS.out (by unfold maxLen; omega)).mono ?_
        rintro e w1 ⟨rfl, hb⟩
        rw [HD.out]
        unfold DA
        go_wp2_with fail
        go_roundg (n - (pos + st))
        case measure => omega
        case rel =>
          have bel1 : Below w.heap.size w w1 := hbel.trans (hb.mono hbel.size)
          refine ⟨pos + st, _, rfl, by omega, rfl, St.tail HS.out (by omega) (by omega), bel1.alloc bel1.size _, ?_⟩
          show _ = _
          rw [← HR.out, HP.out, Utf.sh_sh, show n - (pos + st) = n - pos - st by omega]
      · have hr := Utf.rest_more (Utf.sh f pos) (n := n - pos) (by omega) hm
        obtain ⟨⟨p, m, mo⟩, hd⟩ : ∃ d, Utf.dec (Utf.sh f pos) (n - pos) false = d := ⟨_, rfl⟩
        rw [hd] at hm
        simp only at hm
        subst hm
        have HD := hid hd
        have HP := hid (HR.out.symm.trans hr)
        clear hd hr
        go_wp2_with fail
        refine (refDecode_calls _ _ _ false _ HS.out (by unfold maxLen; omega)).mono ?_
        rintro e w1 ⟨rfl, hb⟩
        rw [HD.out]
        unfold DA
        go_wp2_with fail
        go_ret
        have bel1 : Below w.heap.size w w1 := hbel.trans (hb.mono hbel.size)
        exact ⟨ret_int (by rw [HP.out]), bel1.alloc bel1.size _⟩
    · obtain rfl : pos = n := by omega
      have HP := hid (HR.out.symm.trans (by rw [Nat.sub_self, Utf.rest_zero]))
      have hS := HS.out
      rw [Nat.sub_self] at hS
      have hne := hS.isEmpty_yes
      clear hS
      go_wp2_with fail
      go_ret
      exact ⟨ret_int (by rw [HP.out]; rfl), hbel⟩

end Go.Proofs.YtiheagkgpbkkfaaDoor
