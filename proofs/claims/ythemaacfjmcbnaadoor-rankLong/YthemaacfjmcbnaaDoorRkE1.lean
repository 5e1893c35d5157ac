/-
  Walks of rank.lineOf and rank.Write.
-/
import Derived.Test.YthemaacfjmcbnaaDoorRkFile
import Derived.Test.YthemaacfjmcbnaaDoorB6E
import Derived.Test.YthemaacfjmcbnaaDoorLnN4
import Derived.Test.YthemaacfjmcbnaaDoorCvb
import Derived.Deep.RegionWith
namespace Go.Proofs.YthemaacfjmcbnaaDoor
open Go.RowKit
open Go.Lib (decDigits itoa)
set_option linter.unusedVariables false

set_option maxRecDepth 100000 in
set_option maxHeartbeats 1600000 in
theorem lineOf_calls (t : ByteArray) (k : Int) (w : World) (ht : Tab w) (hm : Rk.May t k) :
    Calls Tryd.prog 16 #[.agg #[.string t, .int .i64 k]] w fun e w' => e = .returned (.string (Rk.lnS t k)) ∧ Below w.heap.size w w' := by
  have hEs := (Rk.encS_st t).size
  have hEN : B6.encN t.size = (t.size + 2) / 3 * 4 := rfl
  have hm2 := hm.2.1
  have hD := (Ln.num_itoa hm.2.2.1 hm.2.2.2).1.2.1
  have hDs := mk_size (itoa k)
  have hk0 := hm.2.2.1
  have hk1 := hm.2.2.2
  have HM := hid hm
  obtain ⟨E, hE⟩ : ∃ E, Rk.encS t = E := ⟨_, rfl⟩
  obtain ⟨D, hDD⟩ : ∃ D, mk (itoa k) = D := ⟨_, rfl⟩
  rw [hE] at hEs
  rw [hDD] at hDs
  have HL := hid (show ((E ++ (⟨#[32]⟩ : ByteArray)) ++ D) ++ (⟨#[10]⟩ : ByteArray) = Rk.lnS t k by
    unfold Rk.lnS Rk.lnL
    rw [hE, ← hDD]
    apply by_inj
    rw [by_append, by_append, by_append, by_mk, by_mk]
    simp [by_])
  have HE := hid hE
  have HD := hid hDD
  have B0 := hid (((Below.refl w.heap.size w).alloc (Nat.le_refl _) (.cells #[.string t, .int .i64 k] 25)).drew)
  have X0 := hid ((Bx2.new w 25 (.string t) (.int .i64 k)).below (Below.refl (w.heap.size + 1) _).drew (by omega))
  have hSt := St.any t
  obtain ⟨w0, hw0⟩ : ∃ w0, (w.alloc (.cells #[.string t, .int .i64 k] 25)).drew = w0 := ⟨_, rfl⟩
  obtain ⟨cap, w1, cv, hsl, hb1, hw1⟩ := conv_bytes (P := Tryd.prog) w0 9 26 5 Tryd.underlying9 Tryd.underlying26 Tryd.underlying5 hSt (by unfold maxLen; omega)
  have hs0 : w0.heap.size = w.heap.size + 1 := by rw [← hw0]; simp
  rw [hw0] at B0 X0
  rw [hs0] at hsl
  have S1 := hid hsl
  have B1 := hid (B0.out.trans (hb1.mono B0.out.size))
  have X1 := hid (X0.out.below hb1 X0.out.lt)
  have T1 := hid (ht.below B1.out)
  have x0 : Hid (w0.cell? ⟨w.heap.size, 0, none⟩ = some (.string t) ∧ w0.cell? ⟨w.heap.size, 1, none⟩ = some (.int .i64 k)) := ⟨X0.out.cell0, X0.out.cell1⟩
  rw [← hw0] at cv x0
  have q0 := x0.out.1
  have q1 := x0.out.2
  have q2 := X1.out.cell1
  have k2 : ¬ 9223372036854775807 < E.size + 1 := by omega
  have hes : (E ++ (⟨#[32]⟩ : ByteArray)).size = E.size + 1 := by rw [ByteArray.size_append]; rfl
  have k3 : ¬ 9223372036854775807 < E.size + 1 + D.size := by omega
  have he88 : E.size ≤ 88 := by omega
  have hd7 : D.size ≤ 7 := by omega
  clear ht hm hSt hsl hb1 hw1 hE hDD B0 X0 hw0 hs0 hEN hEs hDs hD
  go_enter Tryd.func16, Tryd.ntmps16
  go_wp2_with fail
  go_region_with (first | (go_at_call 27; refine (b6encode_calls _ t.size cap (bytesF t) w1 (by omega) S1.out).mono ?_; rintro e w2 ⟨rfl, hb2⟩; have B2 := hid (B1.out.trans (hb2.mono B1.out.size)); have X2 := hid (X1.out.below hb2 X1.out.lt); have T2 := hid (T1.out.below hb2); have q3 := X2.out.cell1; clear hb2; rw [show str (B6.encF (bytesF t) t.size) (B6.encN t.size) = E from HE.out]) | (go_at_call 28; refine (digits_calls k (by omega) (by omega) _ T2.out).mono ?_; rintro e w3 ⟨rfl, hb3⟩; have B3 := hid (B2.out.trans (hb3.mono B2.out.size)); have X3 := hid (X2.out.below hb3 X2.out.lt); clear hb3; rw [HD.out]))
  all_goals (go_wp2_with fail; go_ret; exact ⟨by rw [← HL.out]; rfl, B3.out⟩)
end Go.Proofs.YthemaacfjmcbnaaDoor
