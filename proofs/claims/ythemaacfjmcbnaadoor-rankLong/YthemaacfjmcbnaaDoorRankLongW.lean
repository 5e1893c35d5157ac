/-
  The walk of the law RankLong.
-/
import Derived.Test.YthemaacfjmcbnaaDoorRkE2
import Derived.Test.YthemaacfjmcbnaaDoorRkF
import Derived.Test.YthemaacfjmcbnaaDoorB6R1
import Derived.Test.YthemaacfjmcbnaaDoorCvb
import Derived.Test.YthemaacfjmcbnaaDoorRgM
import Derived.Deep.RegionHeld3
namespace Go.Proofs.YthemaacfjmcbnaaDoor
open Go.RowKit
set_option linter.unusedVariables false

def tOne : ByteArray := ⟨#[33]⟩
theorem itoa_0 : Go.Lib.itoa 0 = [48] := by
  have h := Go.Lib.itoa_nonneg 0
  rw [Ln.dec_small (by omega)] at h
  exact h
theorem itoa_1 : Go.Lib.itoa 1 = [49] := by
  have h := Go.Lib.itoa_nonneg 1
  rw [Ln.dec_small (by omega)] at h
  exact h
theorem enc_one : by_ (Rk.encS tOne) = [73, 81, 61, 61] := by decide +kernel
theorem file_first : Rk.fileL [(tOne, 0)] = by_ sOne := by
  have h : Rk.fileL [(tOne, 0)] = (by_ (Rk.encS tOne) ++ 32 :: Go.Lib.itoa 0) ++ [10] := by simp [Rk.fileL, Rk.lnL]
  rw [h, enc_one, itoa_0]
  rfl
theorem may_one : Rk.May tOne 0 := ⟨by decide, by decide, by omega, by omega⟩
theorem all_one : Rk.All [(tOne, 0)] := fun x hx => by
  obtain rfl : x = (tOne, 0) := by simpa using hx
  exact may_one
theorem ln_no1 (t : ByteArray) : ∀ b ∈ Rk.lnL t 1, b ≠ 10 := fun b hb => by
  unfold Rk.lnL at hb
  rcases List.mem_append.1 hb with hb | hb
  · exact Rk.ne_of (by have := Rk.enc_mem hb; show 10 < b.toNat; omega)
  · rw [itoa_1] at hb
    simp at hb
    rcases hb with rfl | rfl <;> decide
/-- The lines of a file of two rows, the second one without a line feed. -/
theorem long_lns (t : ByteArray) : lns (mk (by_ sOne ++ Rk.lnL t 1)) = [mk (Rk.lnL tOne 0), mk (Rk.lnL t 1)] := by
  have h := Rk.lns_file all_one (Rk.lnL t 1)
  rw [file_first, Rk.lines_one (ln_no1 t) (by unfold Rk.lnL; simp)] at h
  rw [h]
  rfl
theorem long_none {t : ByteArray} (h : t.size = 0) : Rk.FileIs (lns (mk (by_ sOne ++ Rk.lnL t 1))) [] 2 2 := by
  have e : Rk.lnL t 1 = [32, 49] := by
    have h1 := by_length (Rk.encS t)
    rw [(Rk.encS_st t).size, h] at h1
    have h2 : by_ (Rk.encS t) = [] := List.eq_nil_of_length_eq_zero h1
    unfold Rk.lnL
    rw [h2, itoa_1]
    rfl
  rw [long_lns, e]
  refine .inr ⟨1, by simp, fun j hj => ?_, ?_, by omega, rfl, rfl⟩
  · obtain rfl : j = 0 := by omega
    exact (Rk.row_back may_one).1
  · exact .inl ⟨fun h => absurd h.1 (by decide +kernel), rfl⟩
theorem long_long {t : ByteArray} (h : 64 < t.size) : Rk.FileIs (lns (mk (by_ sOne ++ Rk.lnL t 1))) [] 2 7 := by
  rw [long_lns]
  refine .inr ⟨1, by simp, fun j hj => ?_, ?_, by omega, rfl, rfl⟩
  · obtain rfl : j = 0 := by omega
    exact (Rk.row_back may_one).1
  · exact Rk.row_long ⟨by omega, by omega, by omega⟩ h
theorem long_good {t : ByteArray} (h0 : 1 ≤ t.size) (h : t.size ≤ 64) : Rk.FileIs (lns (mk (by_ sOne ++ Rk.lnL t 1))) [(tOne, 0), (t, 1)] 0 0 := by
  have hm : Rk.May t 1 := ⟨h0, h, by omega, by omega⟩
  rw [long_lns]
  refine .inl ⟨fun j hj => ?_, ?_, rfl, rfl⟩
  · have h2 : j < 2 := hj
    obtain rfl | rfl : j = 0 ∨ j = 1 := by omega
    · exact (Rk.row_back may_one).1
    · exact (Rk.row_back hm).1
  · simp only [List.map_cons, List.map_nil, (Rk.row_back may_one).2, (Rk.row_back hm).2]

theorem row_cell {w : World} {B N : Nat} {g : Nat → Int} {t : TypeId} (h : w.heap[B]? = some (.cells (kv .u8 g N).toArray t (0, 0))) {j : Nat} (hj : j < N) : w.cell? ⟨B, j, none⟩ = some (.int .u8 (g j)) := by
  have := kv_get .u8 g N j hj
  simp [World.cell?, h, this]
theorem row_fz {w : World} {B N : Nat} {g : Nat → Int} {t : TypeId} (h : w.heap[B]? = some (.cells (kv .u8 g N).toArray t (0, 0))) (j : Nat) : w.frozen? ⟨B, j, none⟩ = false := by simp [World.frozen?, h]
theorem row_set {w : World} {B N : Nat} {g : Nat → Int} {t : TypeId} (h : w.heap[B]? = some (.cells (kv .u8 g N).toArray t (0, 0))) (j : Nat) (x : Int) : (w.setCell ⟨B, j, none⟩ (.int .u8 x)).heap[B]? = some (.cells (kv .u8 (upd g j x) N).toArray t (0, 0)) := by
  obtain ⟨hlt, hk⟩ := Array.getElem?_eq_some_iff.1 h
  show (w.heap.modify B _)[B]? = _
  rw [Array.getElem?_eq_getElem (by rw [Array.size_modify]; exact hlt), Array.getElem_modify_self, hk, ← kv_set]
  simp
theorem row_sl {w : World} {B N : Nat} {g : Nat → Int} {t : TypeId} (h : w.heap[B]? = some (.cells (kv .u8 g N).toArray t (0, 0))) (hg : ∀ i, 0 ≤ g i ∧ g i ≤ 255) (hN : N ≤ maxLen) : Sl w (some ⟨B, 0, none⟩) N N g :=
  ⟨Nat.le_refl _, hN, hg, fun e => absurd e (by simp), fun _ => ⟨B, 0, rfl, (Array.getElem?_eq_some_iff.1 h).1, fun i hi => by rw [Nat.zero_add]; exact row_cell h hi⟩⟩

/-- A byte up to place j, noughts behind. -/
def fil (b : Int) (j i : Nat) : Int := if i < j then b else 0
theorem fil_bd {b : Int} (h0 : 0 ≤ b) (h1 : b ≤ 255) (j i : Nat) : 0 ≤ fil b j i ∧ fil b j i ≤ 255 := by
  unfold fil; split <;> omega
theorem fil_upd (b : Int) (j : Nat) : upd (fil b j) j b = fil b (j + 1) := by
  funext i
  unfold upd fil
  by_cases h1 : i = j
  · rw [if_pos h1, if_pos (by omega)]
  · rw [if_neg h1]
    by_cases h2 : i < j
    · rw [if_pos h2, if_pos (by omega)]
    · rw [if_neg h2, if_neg (by omega)]
theorem fil_zero (b : Int) : fil b 0 = fun _ => 0 := by funext i; unfold fil; rw [if_neg (by omega)]

set_option maxRecDepth 100000 in
set_option maxHeartbeats 3200000 in
theorem rankLong_calls (b n r : Int) (hb0 : 0 ≤ b) (hb1 : b ≤ 255) (hn0 : 0 ≤ n) (hn1 : n ≤ 255) (hr0 : 0 ≤ r) (hr1 : r ≤ 65535) (w : World) (ht : Tab w) :
    Calls Tryd.prog 5 #[.int .u8 b, .int .u8 n, .int .u16 r] w fun e w' => e = .returned (.bool true) ∧ Below w.heap.size w w' := by
  obtain ⟨i0, hi, hz0, hz1, hz2⟩ := info_parts Tryd.infoB
  have HT := hid ht
  clear ht
  obtain ⟨N, rfl⟩ := Int.eq_ofNat_of_zero_le hn0
  have e1 : IntKind.i64.wrap (N : Int) = N := i64_in (by omega) (by omega)
  go_enter Tryd.func5, Tryd.ntmps5
  go_wp2_with (at_make; refine wpList_make_kv rfl _ _ 26 rfl .u8 5 i0 Tryd.underlying26 hi hz0 hz1 (by omega) N (by omega) rfl rfl ?_)
  intro w1 HM
  go_wp2_with fail
  go_loopg [18] N (fun q iv wr => ∃ j : Nat, q = N - j ∧ j ≤ N ∧ iv = .int .i64 j ∧ Hid (wr.heap[w.heap.size]? = some (.cells (kv .u8 (fil b j) N).toArray 5 (0, 0))) ∧ Hid (Below w.heap.size w wr))
  case atStart => exact ⟨0, rfl, by omega, rfl, hid (by rw [fil_zero]; exact HM.out.row), hid HM.out.below⟩
  case round =>
    obtain ⟨j, rfl, hj, rfl, HR, HB⟩ := hrel
    by_cases hlt : j < N
    · have l1 : (j : Int) < N := by omega
      have l0 : (0 : Int) ≤ j := by omega
      have e7 : IntKind.i64.wrap ((j : Int) + 1) = j + 1 := i64_in (by omega) (by omega)
      have q1 := row_cell HR.out hlt
      have q2 := row_fz HR.out j
      go_wp2_with fail
      go_roundg (N - (j + 1))
      case measure => omega
      case rel => exact ⟨j + 1, rfl, by omega, by go_num, hid (by rw [← fil_upd]; exact row_set HR.out j b), hid (HB.out.setCell (p := ⟨w.heap.size, j, none⟩) (Nat.le_refl _) _)⟩
    · have l1 : ¬ (j : Int) < N := by omega
      obtain rfl : j = N := by omega
      have S1 := hid (row_sl HR.out (fil_bd hb0 hb1 j) (by unfold maxLen; omega))
      clear HR HM
      obtain ⟨X, hX⟩ : ∃ X, str (fil b j) j = X := ⟨_, rfl⟩
      have hXs : X.size = j := by rw [← hX]; exact str_size _ _
      have HX := hid hX
      have cvX := fun (w' : World) (h : Below wr.heap.size wr w') => run_convert_sl (P := Tryd.prog) w' 26 5 9 Tryd.underlying26 Tryd.underlying5 Tryd.underlying9 (S1.out.below h)
      rw [hX] at cvX
      have CVX := hid cvX
      clear hX cvX
      have cv0 := CVX.out wr (Below.refl _ _)
      obtain ⟨E, hE⟩ : ∃ E, Rk.encS X = E := ⟨_, rfl⟩
      have hEs := (Rk.encS_st X).size
      have hEN : B6.encN X.size = (X.size + 2) / 3 * 4 := rfl
      rw [hE] at hEs
      have he340 : E.size ≤ 344 := by omega
      obtain ⟨Z, hZ⟩ : ∃ Z, ((⟨#[73, 81, 61, 61, 32, 48, 10]⟩ : ByteArray) ++ E) ++ (⟨#[32, 49]⟩ : ByteArray) = Z := ⟨_, rfl⟩
      obtain ⟨zz, hzz⟩ : ∃ zz, Z.size = zz := ⟨_, rfl⟩
      have HZ := hid (show Z = mk (by_ sOne ++ Rk.lnL X 1) by
        rw [← hZ, Rk.lnL, hE, itoa_1]
        apply by_inj
        rw [by_append, by_append, by_mk]
        simp [by_, sOne])
      have l7 : (⟨#[73, 81, 61, 61, 32, 48, 10]⟩ : ByteArray).size = 7 := rfl
      have l2 : (⟨#[32, 49]⟩ : ByteArray).size = 2 := rfl
      have y1 : ((⟨#[73, 81, 61, 61, 32, 48, 10]⟩ : ByteArray) ++ E).size = 7 + E.size := by rw [ByteArray.size_append, l7]
      have hz97 : zz ≤ 400 := by rw [← hzz, ← hZ, ByteArray.size_append, y1, l2]; omega
      have hStZ := St.any Z
      rw [hzz] at hStZ
      obtain ⟨cap, w2, cv3, hsl2, hb2, hw2⟩ := conv_bytes (P := Tryd.prog) wr 9 26 5 Tryd.underlying9 Tryd.underlying26 Tryd.underlying5 hStZ (by unfold maxLen; omega)
      have HSZ := hid (show str (bytesF Z) zz = Z by rw [← hzz]; exact str_bytes Z)
      have S2 := hid hsl2
      have B2 := hid (HB.out.trans (hb2.mono HB.out.size))
      have C2 := hid hb2
      have x1 : ¬ 9223372036854775807 < 7 + E.size := by omega
      have x2 : ¬ 9223372036854775807 < 7 + E.size + 2 := by omega
      have HE := hid hE
      have HL := hid (long_lns X)
      rw [← HZ.out] at HL
      clear hE hEs hEN hzz hStZ hsl2 hb2 hw2
      go_wp2_with fail
      refine (rencode_calls X j (bytesF X) _ (by omega) (by rw [← hXs]; exact St.any X)).mono ?_
      rintro e wq ⟨rfl, hwq⟩
      subst hwq
      rw [show str (B6.encF (bytesF X) j) (B6.encN j) = E by rw [← HE.out, Rk.encS, hXs]]
      go_wp2_with fail
      refine (read_calls _ zz cap (bytesF Z) _ (by omega) S2.out (by rw [HSZ.out, HL.out]; simp)).mono ?_
      rintro e w3 ⟨⟨rows, a3, k3, c3, l3, e3, rfl, r3, f3⟩, hb3⟩
      rw [HSZ.out, HZ.out] at f3
      have B3 := hid (B2.out.trans (hb3.mono B2.out.size))
      have C3 := hid (C2.out.trans (hb3.mono C2.out.size))
      have s3 := B3.out.size
      have B4 := hid (B3.out.alloc s3 (.cells #[.int .i64 l3, .int .i64 e3] 33))
      have C4 := hid (C3.out.alloc C3.out.size (.cells #[.int .i64 l3, .int .i64 e3] 33))
      have X3 := hid (Bx2.new w3 33 (.int .i64 l3) (.int .i64 e3))
      have R3 := hid (r3.below ((Below.refl _ w3).alloc (Nat.le_refl _) (.cells #[.int .i64 l3, .int .i64 e3] 33)))
      clear hb3 r3 S2 B2 C2 cv0 cv3
      by_cases h0 : j = 0
      · obtain ⟨rfl, rfl, rfl⟩ := f3.one (long_none (by omega))
        obtain rfl : 0 = k3 := R3.out.len
        have h0' : (j : Int) = 0 := by omega
        clear f3
        go_wp2_with fail
        refine (fixed07_calls _).mono ?_
        rintro e w4 ⟨rfl, hb4⟩
        have B5 := hid (B4.out.trans (hb4.mono B4.out.size))
        have X4 := X3.out.below hb4 X3.out.lt
        have y3 := X4.cell0
        have y4 := X4.cell1
        clear hb4 X4
        go_wp2_with fail
        go_ret
        exact ⟨rfl, B5.out⟩
      have h0' : ¬ (j : Int) = 0 := by omega
      have e9 : IntKind.i64.wrap r = r := i64_in (by omega) (by omega)
      have cvF := CVX.out _ C4.out
      have RW := hid (Rw.one (w := w3.alloc (.cells #[.int .i64 l3, .int .i64 e3] 33)) X r 25 (w3.heap.size + 1) (by simp))
      have s4 := B4.out.size
      have B5 := hid (B4.out.alloc s4 (.cells #[.string X, .int .i64 r] 25))
      have C5 := hid (C4.out.alloc C4.out.size (.cells #[.string X, .int .i64 r] 25))
      have X5 := hid (X3.out.alloc (.cells #[.string X, .int .i64 r] 25))
      have R5 := hid (R3.out.below ((Below.refl _ _).alloc (Nat.le_refl _) (.cells #[.string X, .int .i64 r] 25)))
      have T5 := hid (HT.out.below B5.out)
      go_wp2_with fail
      refine (write_calls RW.out (by omega) T5.out).mono ?_
      rintro e w6 ⟨ho, hb6⟩
      have B6 := hid (B5.out.trans (hb6.mono B5.out.size))
      have C6 := hid (C5.out.trans (hb6.mono C5.out.size))
      have X6 := hid (X5.out.below hb6 X5.out.lt)
      have R6 := hid (R5.out.below hb6)
      clear hb6 cvF RW B5 C5 X5 R5 T5 R3 X3 B4 C4
      by_cases h64 : 64 < j
      · have h64' : (64 : Int) < j := by omega
        obtain ⟨rfl, rfl, rfl⟩ := f3.one (long_long (by omega))
        obtain rfl : 0 = k3 := R6.out.len
        obtain rfl : e = .returned (.tuple #[.slice none 0 0, .bool false]) := by
          rcases ho with ⟨h, _⟩ | ⟨_, rfl⟩
          · have := (h (X, r) (by simp)).2.1
            exact absurd this (by show ¬ X.size ≤ 64; omega)
          · rfl
        clear f3 ho
        go_wp2_with fail
        refine (fixed07_calls _).mono ?_
        rintro e w7 ⟨rfl, hb7⟩
        have B7 := hid (B6.out.trans (hb7.mono B6.out.size))
        have X7 := X6.out.below hb7 X6.out.lt
        have y3 := X7.cell0
        have y4 := X7.cell1
        clear hb7 X7
        go_wp2_with fail
        go_ret
        exact ⟨rfl, B7.out⟩
      · have h64' : ¬ (64 : Int) < j := by omega
        obtain ⟨rfl, rfl, rfl⟩ := f3.one (long_good (by omega) (by omega))
        obtain rfl : 2 = k3 := R6.out.len
        have hA : Rk.All [(X, r)] := fun x hx => by
          obtain rfl : x = (X, r) := by simpa using hx
          exact ⟨by show 1 ≤ X.size; omega, by show X.size ≤ 64; omega, hr0, by show r ≤ 9999999; omega⟩
        rcases ho with ⟨_, a6, c6, rfl, _⟩ | ⟨h, _⟩
        rotate_left
        · exact absurd hA h
        obtain ⟨b7, o7, rfl, _, hc⟩ := R6.out.at' (by omega)
        obtain ⟨q1, p1⟩ := hc 1 (by omega)
        have q1 : w6.cell? ⟨b7, o7 + 2, none⟩ = some (.string X) := q1
        have p1 : w6.cell? ⟨b7, o7 + 3, none⟩ = some (.int .i64 1) := p1
        have hlt7 := World.block_lt_of_cell? _ _ q1
        have hXX : (X.toList == X.toList) = true := beq_self_eq_true _
        have SA := hid (show ∀ w' : World, Below w6.heap.size w6 w' → w'.cell? ⟨w3.heap.size, 0, none⟩ = some (.int .i64 0) ∧ w'.cell? ⟨w3.heap.size, 1, none⟩ = some (.int .i64 0) ∧ w'.cell? ⟨b7, o7 + 2, none⟩ = some (.string X) ∧ w'.cell? ⟨b7, o7 + 3, none⟩ = some (.int .i64 1) ∧ (convert 26 9 (.slice (some ⟨w.heap.size, 0, none⟩) j j)).run Tryd.prog w' = .ok (.string X) w' from fun w' h =>
          ⟨(X6.out.below h X6.out.lt).cell0, (X6.out.below h X6.out.lt).cell1, by rw [h.cell (p := ⟨b7, o7 + 2, none⟩) hlt7]; exact q1, by rw [h.cell (p := ⟨b7, o7 + 3, none⟩) hlt7]; exact p1, CVX.out _ (C6.out.trans (h.mono C6.out.size))⟩)
        have D6 := hid ((Below.refl w6.heap.size w6).drew)
        clear f3 hA hc q1 p1
        go_wp2_with fail
        go_region_held3 (fun w' => w'.cell? ⟨w3.heap.size, 0, none⟩ = some (.int .i64 0) ∧ w'.cell? ⟨w3.heap.size, 1, none⟩ = some (.int .i64 0) ∧ w'.cell? ⟨b7, o7 + 2, none⟩ = some (.string X) ∧ w'.cell? ⟨b7, o7 + 3, none⟩ = some (.int .i64 1) ∧ (convert 26 9 (.slice (some ⟨w.heap.size, 0, none⟩) j j)).run Tryd.prog w' = .ok (.string X) w') (first | exact SA.out _ D6.out | exact SA.out _ D7.out) (first | (go_at_call 6; refine (fixed07_calls _).mono ?_; rintro e w7 ⟨rfl, hb7⟩; have D7 := hid (D6.out.trans (hb7.mono D6.out.size)); have B7 := hid (B6.out.trans (D7.out.mono B6.out.size)); clear hb7))
        go_wp2_with fail
        go_ret
        exact ⟨rfl, B7.out⟩
end Go.Proofs.YthemaacfjmcbnaaDoor
