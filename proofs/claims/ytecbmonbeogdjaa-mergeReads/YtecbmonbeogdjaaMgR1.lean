/-
  Walks of the reference's two and bad.
-/
import Derived.Test.YtecbmonbeogdjaaMgW3
import Derived.Test.YtecbmonbeogdjaaLotB
import Derived.Test.YtecbmonbeogdjaaLotE
import Derived.Deep.QuietTactic
import Derived.BigQuiet
namespace Go.Proofs.Ytecbmonbeogdjaa
open Go.RowKit
set_option linter.unusedVariables false

/-- What two answers of a row's line. -/
def TwoR (s : ByteArray) (e : Ending) : Prop :=
  (∃ t, (wds s).length = 2 ∧ Mg.RdIs (Rk.w0 s) t ∧ e = .returned (.tuple #[.string t, .string (Rk.w1 s), .bool true])) ∨
  ((∀ x, ¬ Mg.RowIs s x) ∧ ∃ u : ByteArray, u.size ≤ s.size ∧ e = .returned (.tuple #[.string ⟨#[]⟩, .string u, .bool false]))
/-- What two answers of a pair's line. -/
def TwoP (s : ByteArray) (e : Ending) : Prop :=
  (∃ x, Mg.PairIs s x ∧ e = .returned (.tuple #[.string x.1, .string x.2, .bool true])) ∨
  ((∀ x, ¬ Mg.PairIs s x) ∧ ∃ a b, e = .returned (.tuple #[.string a, .string b, .bool false]))

set_option maxRecDepth 100000 in
set_option maxHeartbeats 1600000 in
theorem two_row (s : ByteArray) (w : World) (hsz : s.size ≤ 100000) :
    Calls Try.prog 12 #[.string s, .bool false] w fun e w' => TwoR s e ∧ Below w.heap.size w w' := by
  go_enter Try.func12, Try.ntmps12
  go_wp2_with fail
  refine (rwords_calls s _ hsz).mono ?_
  rintro e w1 ⟨a1, k, c1, rfl, t1, hb1⟩
  have hl := t1.len
  have T1 := hid t1
  have B1 := hid hb1
  clear t1 hb1
  by_cases hk : k = 2
  · subst hk
    obtain ⟨b, off, rfl, hbl, hc⟩ := T1.out.at' (by omega)
    have q0 : w1.cell? ⟨b, off, none⟩ = some (.string (Rk.w0 s)) := hc 0 (by omega)
    have q1 : w1.cell? ⟨b, off + 1, none⟩ = some (.string (Rk.w1 s)) := hc 1 (by omega)
    have z0 : (Rk.w0 s).size ≤ s.size := Rk.wds_le
    have z1 : (Rk.w1 s).size ≤ s.size := Rk.wds_le
    have HL := hid hl
    clear hc hl
    go_wp2_with fail
    refine (rread_calls (Rk.w0 s) (Rk.w0 s).size (bytesF (Rk.w0 s)) _ (by omega) (St.any _)).mono ?_
    rintro e w2 ⟨ho, hb2⟩
    have q2 : w2.cell? ⟨b, off + 1, none⟩ = some (.string (Rk.w1 s)) := by rw [hb2.cell (p := ⟨b, off + 1, none⟩) hbl]; exact q1
    have B2 := hid (B1.out.trans (hb2.mono B1.out.size))
    clear hb2 q0 q1
    rcases ho with ⟨g, m, hW, rfl⟩ | ⟨p, hp, rfl⟩
    · have HW := hid hW
      clear hW
      go_wp2_with fail
      go_quiet (fail)
      go_wp2_with fail
      go_ret3
      exact ⟨.inl ⟨_, HL.out, ⟨g, m, HW.out, rfl⟩, rfl⟩, below_drewN B2.out _⟩
    · have HN := hid (show ∀ x, ¬ Mg.RowIs s x from fun x h => Mg.bad_no hp _ h.2.1)
      clear hp
      go_wp2_with fail
      go_quiet (fail)
      go_wp2_with fail
      go_ret3
      exact ⟨.inr ⟨HN.out, _, z1, rfl⟩, below_drewN B2.out _⟩
  · have HN := hid (show ∀ x, ¬ Mg.RowIs s x from fun x h => hk (by rw [← hl]; exact h.1))
    have hk' : ¬ (k : Int) = 2 := by omega
    go_wp2_with fail
    go_ret3
    exact ⟨.inr ⟨HN.out, ⟨#[]⟩, Nat.zero_le _, rfl⟩, B1.out⟩

set_option maxRecDepth 100000 in
set_option maxHeartbeats 1600000 in
theorem two_pair (s : ByteArray) (w : World) (hsz : s.size ≤ 100000) :
    Calls Try.prog 12 #[.string s, .bool true] w fun e w' => TwoP s e ∧ Below w.heap.size w w' := by
  go_enter Try.func12, Try.ntmps12
  go_wp2_with fail
  refine (rwords_calls s _ hsz).mono ?_
  rintro e w1 ⟨a1, k, c1, rfl, t1, hb1⟩
  have hl := t1.len
  have T1 := hid t1
  have B1 := hid hb1
  clear t1 hb1
  by_cases hk : k = 2
  · subst hk
    obtain ⟨b, off, rfl, hbl, hc⟩ := T1.out.at' (by omega)
    have q0 : w1.cell? ⟨b, off, none⟩ = some (.string (Rk.w0 s)) := hc 0 (by omega)
    have q1 : w1.cell? ⟨b, off + 1, none⟩ = some (.string (Rk.w1 s)) := hc 1 (by omega)
    have z0 : (Rk.w0 s).size ≤ s.size := Rk.wds_le
    have z1 : (Rk.w1 s).size ≤ s.size := Rk.wds_le
    have HL := hid hl
    clear hc hl
    go_wp2_with fail
    refine (rread_calls (Rk.w0 s) (Rk.w0 s).size (bytesF (Rk.w0 s)) _ (by omega) (St.any _)).mono ?_
    rintro e w2 ⟨ho, hb2⟩
    have q2 : w2.cell? ⟨b, off + 1, none⟩ = some (.string (Rk.w1 s)) := by rw [hb2.cell (p := ⟨b, off + 1, none⟩) hbl]; exact q1
    have B2 := hid (B1.out.trans (hb2.mono B1.out.size))
    clear hb2 q0 q1
    rcases ho with ⟨g, m, hW, rfl⟩ | ⟨p, hp, rfl⟩
    · have HW := hid hW
      clear hW
      go_wp2_with fail
      refine (rread_calls (Rk.w1 s) (Rk.w1 s).size (bytesF (Rk.w1 s)) _ (by omega) (St.any _)).mono ?_
      rintro e w3 ⟨ho, hb3⟩
      have B3 := hid (B2.out.trans (hb3.mono B2.out.size))
      clear hb3
      rcases ho with ⟨g2, m2, hW2, rfl⟩ | ⟨p2, hp2, rfl⟩
      · have HW2 := hid hW2
        clear hW2
        go_wp2_with fail
        go_ret3
        exact ⟨.inl ⟨(_, _), ⟨HL.out, ⟨g, m, HW.out, rfl⟩, ⟨g2, m2, HW2.out, rfl⟩⟩, rfl⟩, B3.out⟩
      · have HN := hid (show ∀ x, ¬ Mg.PairIs s x from fun x h => Mg.bad_no hp2 _ h.2.2)
        clear hp2
        go_wp2_with fail
        go_ret3
        exact ⟨.inr ⟨HN.out, _, _, rfl⟩, B3.out⟩
    · have HN := hid (show ∀ x, ¬ Mg.PairIs s x from fun x h => Mg.bad_no hp _ h.2.1)
      clear hp
      go_wp2_with fail
      refine (rread_calls (Rk.w1 s) (Rk.w1 s).size (bytesF (Rk.w1 s)) _ (by omega) (St.any _)).mono ?_
      rintro e w3 ⟨ho, hb3⟩
      have B3 := hid (B2.out.trans (hb3.mono B2.out.size))
      clear hb3
      rcases ho with ⟨g2, m2, hW2, rfl⟩ | ⟨p2, hp2, rfl⟩
      · clear hW2
        go_wp2_with fail
        go_ret3
        exact ⟨.inr ⟨HN.out, _, _, rfl⟩, B3.out⟩
      · clear hp2
        go_wp2_with fail
        go_ret3
        exact ⟨.inr ⟨HN.out, _, _, rfl⟩, B3.out⟩
  · have HN := hid (show ∀ x, ¬ Mg.PairIs s x from fun x h => hk (by rw [← hl]; exact h.1))
    have hk' : ¬ (k : Int) = 2 := by omega
    go_wp2_with fail
    go_ret3
    exact ⟨.inr ⟨HN.out, _, _, rfl⟩, B1.out⟩

theorem ret_all4 {W : World} {R : Nat} {t : TypeId} {a b c d : Value} (X : Bx4 W R t a b c d) (x y z u : Value) :
    Bx4 (W.setCell ⟨R, 0, none⟩ x) R t x b c d ∧ Bx4 ((W.setCell ⟨R, 0, none⟩ x).setCell ⟨R, 1, none⟩ y) R t x y c d ∧ Bx4 (((W.setCell ⟨R, 0, none⟩ x).setCell ⟨R, 1, none⟩ y).setCell ⟨R, 2, none⟩ z) R t x y z d ∧
    Bx4 ((((W.setCell ⟨R, 0, none⟩ x).setCell ⟨R, 1, none⟩ y).setCell ⟨R, 2, none⟩ z).setCell ⟨R, 3, none⟩ u) R t x y z u :=
  ⟨X.set0 x, (X.set0 x).set1 y, ((X.set0 x).set1 y).set2 z, (((X.set0 x).set1 y).set2 z).set3 u⟩
theorem below_all4 {w W : World} {n R : Nat} (h : Below n w W) (hR : n ≤ R) (x y z u : Value) : Below n w ((((W.setCell ⟨R, 0, none⟩ x).setCell ⟨R, 1, none⟩ y).setCell ⟨R, 2, none⟩ z).setCell ⟨R, 3, none⟩ u) :=
  ((below_two h hR x y).setCell (p := ⟨R, 2, none⟩) hR z).setCell (p := ⟨R, 3, none⟩) hR u

theorem own_all4 {W : World} {base : Nat} {e : TypeId} {size : Nat} {v : Value} {n R : Nat} {xs : List Value} (h : W.ownsRow base e size v n xs) (hR : R < base) (x y z u : Value) : ((((W.setCell ⟨R, 0, none⟩ x).setCell ⟨R, 1, none⟩ y).setCell ⟨R, 2, none⟩ z).setCell ⟨R, 3, none⟩ u).ownsRow base e size v n xs :=
  own_set (own_set (own_set (own_set h (own_block h hR) x) (own_block h hR) y) (own_block h hR) z) (own_block h hR) u

set_option maxHeartbeats 800000 in
theorem bad_calls (i c : Int) (w : World) :
    Calls Try.prog 11 #[.int .i64 i, .int .i64 c] w fun e w' => e = .returned (.agg #[.slice none 0 0, .slice none 0 0, .int .i64 i, .int .i64 c]) ∧ Below w.heap.size w w' := by
  go_enter Try.func11, Try.ntmps11
  go_wp2_with fail
  refine bodyPost_ret (v := .agg #[.slice none 0 0, .slice none 0 0, .int .i64 i, .int .i64 c]) (by simp [results, Try.results11, go_sem]) rfl ?_
  exact ⟨rfl, (Below.refl _ _).alloc (Nat.le_refl _) _⟩
end Go.Proofs.Ytecbmonbeogdjaa
