/-
  The walk of the reference's Write.
-/
import Derived.Test.YthemaacfjmcbnaaDoorRkFile
import Derived.Test.YthemaacfjmcbnaaDoorB6R1
import Derived.Test.YthemaacfjmcbnaaDoorLnN2
import Derived.Deep.QuietTactic
import Derived.BigQuiet
namespace Go.Proofs.YthemaacfjmcbnaaDoor
open Go.RowKit
open Go.Lib (decDigits itoa)
set_option linter.unusedVariables false

/-- What the reference's Write answers. -/
def RwOut (xs : List (ByteArray × Int)) (e : Ending) : Prop :=
  (Rk.All xs ∧ e = .returned (.tuple #[.string (mk (Rk.fileL xs)), .bool true])) ∨ (¬ Rk.All xs ∧ e = .returned (.tuple #[.string ⟨#[]⟩, .bool false]))

set_option maxRecDepth 100000 in
set_option maxHeartbeats 1600000 in
theorem rwrite_calls {w : World} {a : Option Addr} {n c : Nat} {xs : List (ByteArray × Int)} (h1 : Rw w a n c xs) (hn : n ≤ 100) :
    Calls Tryd.prog 8 #[.slice a n c] w fun e w' => RwOut xs e ∧ Below w.heap.size w w' := by
  have H1 := hid h1
  have hl := h1.len
  clear h1
  have hn' : ¬ (4096 : Int) < n := by omega
  go_enter Tryd.func8, Tryd.ntmps8
  go_wp2_with fail
  go_loopg [4, 11] n (fun r v iv wr => ∃ (j : Nat) (X : ByteArray), r = n - j ∧ j ≤ n ∧ iv = .int .i64 j ∧ v = .string X ∧ Hid (X = mk (Rk.fileL (xs.take j))) ∧ Hid (Rk.All (xs.take j)) ∧ Hid (Below w.heap.size w wr))
  case atStart => exact ⟨0, ⟨#[]⟩, rfl, by omega, rfl, rfl, hid rfl, hid (fun x hx => by simp at hx), hid (Below.refl _ _)⟩
  case round =>
    obtain ⟨j, X, rfl, hj, rfl, rfl, HX, HAj, HB⟩ := hrel
    by_cases hlt : j < n
    · have k1 : (j : Int) < n := by omega
      have k0 : (0 : Int) ≤ j := by omega
      have e2 : IntKind.i64.wrap ((j : Int) + 1) = j + 1 := i64_in (by omega) (by omega)
      obtain ⟨b, off, rfl, hbl, hc⟩ := (H1.out.below HB.out).at' (by omega)
      obtain ⟨q1, p1⟩ := hc j hlt
      obtain ⟨t, ht⟩ : ∃ t, tat xs j = t := ⟨_, rfl⟩
      obtain ⟨k, hk⟩ : ∃ k, kat xs j = k := ⟨_, rfl⟩
      rw [ht] at q1
      rw [hk] at p1
      have HTK := hid (And.intro ht hk)
      have HF := hid (Rk.take_snoc (by omega) ht hk)
      clear hc ht hk
      go_wp2_with fail
      refine (rmay_calls t k _).mono ?_
      rintro e w1 ⟨ho, hb1⟩
      have B1 := hid (HB.out.trans (hb1.mono HB.out.size))
      rw [← hb1.cell (p := ⟨b, off + j * 2, none⟩) hbl] at q1
      rw [← hb1.cell (p := ⟨b, off + j * 2 + 1, none⟩) hbl] at p1
      clear hb1
      rcases ho.of with ⟨rfl, h⟩ | ⟨rfl, h⟩
      · have hEs := (Rk.encS_st t).size
        have hEN : B6.encN t.size = (t.size + 2) / 3 * 4 := rfl
        have hm2 := h.2.1
        have hD := (Ln.num_itoa h.2.2.1 h.2.2.2).1.2.1
        have hDs := mk_size (itoa k)
        have hk0 := h.2.2.1
        have hk1 := h.2.2.2
        have hlen := Rk.file_len HAj.out
        have hlen3 : (xs.take j).length = j := by rw [List.length_take]; omega
        have hXs : X.size = (Rk.fileL (xs.take j)).length := by rw [HX.out, mk_size]
        obtain ⟨E, hE⟩ : ∃ E, Rk.encS t = E := ⟨_, rfl⟩
        obtain ⟨D, hDD⟩ : ∃ D, mk (itoa k) = D := ⟨_, rfl⟩
        have QE := hid (fun w => rencode_calls t t.size (bytesF t) w (by omega) (St.any t))
        have QD := hid (fun w => rDigits_calls k (by omega) (by omega) w)
        rw [show str (B6.encF (bytesF t) t.size) (B6.encN t.size) = E from hE] at QE
        rw [hDD] at QD
        rw [hE] at hEs
        rw [hDD] at hDs
        have HL := hid (show (((X ++ E) ++ (⟨#[32]⟩ : ByteArray)) ++ D) ++ (⟨#[10]⟩ : ByteArray) = mk (Rk.fileL (xs.take (j + 1))) by
          rw [HF.out, Rk.fileL_snoc, Rk.lnL, hE, ← hDD, HX.out]
          apply by_inj
          rw [by_append, by_append, by_append, by_append, by_mk, by_mk, by_mk]
          simp [by_])
        have HAl := hid (show Rk.All (xs.take (j + 1)) by
          rw [HF.out]
          intro x hx
          rcases List.mem_append.1 hx with hx | hx
          · exact HAj.out x hx
          · obtain rfl : x = (t, k) := by simpa using hx
            exact h)
        have x97 : X.size ≤ 9700 := by omega
        have e88 : E.size ≤ 88 := by omega
        have d7 : D.size ≤ 7 := by omega
        have z1 : ¬ 9223372036854775807 < X.size + E.size := by omega
        have y1 : (X ++ E).size = X.size + E.size := ByteArray.size_append
        have z2 : ¬ 9223372036854775807 < X.size + E.size + 1 := by omega
        have y2 : ((X ++ E) ++ (⟨#[32]⟩ : ByteArray)).size = X.size + E.size + 1 := by rw [ByteArray.size_append, y1]; rfl
        have z3 : ¬ 9223372036854775807 < X.size + E.size + 1 + D.size := by omega
        have y3 : (((X ++ E) ++ (⟨#[32]⟩ : ByteArray)) ++ D).size = X.size + E.size + 1 + D.size := by rw [ByteArray.size_append, y2]
        have z4 : ¬ 9223372036854775807 < X.size + E.size + 1 + D.size + 1 := by omega
        clear ho h hEs hEN hD hDs hE hDD hlen hlen3 hXs HX
        go_wp2_with fail
        go_quiet (first | exact Calls.quiet_of_same (QE.out _) | exact Calls.quiet_of_same (QD.out _))
        go_wp2_with fail
        go_roundg (n - (j + 1))
        case measure => omega
        case rel => exact ⟨j + 1, (((X ++ E) ++ (⟨#[32]⟩ : ByteArray)) ++ D) ++ (⟨#[10]⟩ : ByteArray), rfl, by omega, by go_num, rfl, HL, HAl, hid (below_drewN B1.out _)⟩
      · have HN := hid (show ¬ Rk.All xs from fun hh => h (by rw [← HTK.out.1, ← HTK.out.2]; exact (Rk.all_iff hl).1 hh j hlt))
        clear ho h
        go_wp2_with fail
        go_ret2
        exact ⟨.inr ⟨HN.out, rfl⟩, B1.out⟩
    · obtain rfl : j = n := by omega
      have k1 : ¬ (j : Int) < j := by omega
      have HX2 := hid (show X = mk (Rk.fileL xs) by rw [HX.out, List.take_of_length_le (by omega)])
      have HA2 := hid (show Rk.All xs by have := HAj.out; rwa [List.take_of_length_le (by omega)] at this)
      go_wp2_with fail
      go_ret2
      exact ⟨.inl ⟨HA2.out, by rw [← HX2.out]; rfl⟩, HB.out⟩
end Go.Proofs.YthemaacfjmcbnaaDoor
