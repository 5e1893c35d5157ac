/-
  Walks of the reference's Write and Read.
-/
import Derived.Test.YtaejoleijmihhaaLeW2
import Derived.Test.YtaejoleijmihhaaUtfR5
namespace Go.Proofs.Ytaejoleijmihhaa
open Go.RowKit
set_option linter.unusedVariables false

theorem rofI_calls (b : Int) (h0 : 0 ≤ b) (h1 : b ≤ 255) (w : World) :
    Calls Try.prog 12 #[.int .u8 b] w fun e w' => e = .returned (.int .i64 (Le.ltr b)) ∧ w' = w := by
  obtain ⟨n, rfl⟩ := Int.eq_ofNat_of_zero_le h0
  exact rof_calls n (by omega) w

set_option maxRecDepth 100000 in
set_option maxHeartbeats 1600000 in
theorem rwrite_calls (s : ByteArray) (n : Nat) (f : Nat → Int) (w : World) (hn : n ≤ 100000) (hS : St s n f) :
    Calls Try.prog 15 #[.string s] w fun e w' => e = .returned (.string (str (Le.wrF f n) (Le.wrN f n))) ∧ Below w.heap.size w w' := by
  obtain ⟨hsz, hget, hbd⟩ := hS
  have HBD := hid hbd
  clear hbd
  go_enter Try.func15, Try.ntmps15
  go_wp2_with fail
  go_loopg [3, 4] n (fun r o iv wr => ∃ k : Nat, k ≤ n ∧ r = n - k ∧ iv = .int .i64 k ∧ o = .string (str (Le.wrF f k) (Le.wrN f k)) ∧ Hid (Below w.heap.size w wr))
  case atStart => exact ⟨0, by omega, by omega, rfl, rfl, hid (Below.refl _ _)⟩
  case round =>
    obtain ⟨k, hk, rfl, rfl, rfl, HB⟩ := hrel
    by_cases hlt : k < n
    · have h1 : (k : Int) < n := by omega
      have h0 : (0 : Int) ≤ k := by omega
      have hb := HBD.out k
      have hpt := Le.ltr_pt hb.1 hb.2
      have hen := Le.ltr_enc hb.1 hb.2
      have hwn := Le.wrN_bd HBD.out k
      obtain ⟨X, hX⟩ : ∃ X, str (Le.wrF f k) (Le.wrN f k) = X := ⟨_, rfl⟩
      obtain ⟨Y, hY⟩ : ∃ Y, str (Utf.encF (Le.ltr (f k))) (Utf.encN (Le.ltr (f k))) = Y := ⟨_, rfl⟩
      have hSX : St X (Le.wrN f k) (Le.wrF f k) := by rw [← hX]; exact St.of (Le.wrF_bd HBD.out _) _
      have hSY : St Y (Utf.encN (Le.ltr (f k))) (Utf.encF (Le.ltr (f k))) := by rw [← hY]; exact St.of (Le.encF_pt_bd hb.1 hb.2) _
      have HE : Hid (X ++ Y = str (Le.wrF f (k + 1)) (Le.wrN f (k + 1))) := (hSX.append hSY).eq_str
      have hcat : ¬ 9223372036854775807 < X.size + Y.size := by rw [hSX.size, hSY.size]; omega
      rw [hX]
      have HY := hid hY
      clear hX hY hSX hSY
      go_wp2_with fail
      refine (rofI_calls _ hb.1 hb.2 _).mono ?_
      rintro e wr ⟨rfl, rfl⟩
      go_wp2_with fail
      refine (refEncode_yes _ _ hpt).mono ?_
      rintro e w3 ⟨rfl, hb3⟩
      rw [HY.out]
      have B3 := hid (HB.out.trans (hb3.mono HB.out.size))
      clear hb3 HB
      go_wp2_with fail
      go_roundg (n - (k + 1))
      case measure => omega
      case rel => exact ⟨k + 1, by omega, rfl, by go_num, by rw [HE.out], B3⟩
    · obtain rfl : k = n := by omega
      have h1 : ¬ (k : Int) < k := by omega
      go_wp2_with fail
      go_ret
      exact ⟨rfl, HB.out⟩

/-- What the reference's Read answers. -/
def RrOut (f : Nat → Int) (n : Nat) (e : Ending) : Prop :=
  (∃ g k, Le.WR f n g k ∧ e = .returned (.tuple #[.string (str g k), .int .i64 0, .bool true])) ∨
  (∃ p, Le.Bad f n p ∧ e = .returned (.tuple #[.string ⟨#[]⟩, .int .i64 (p : Nat), .bool false]))

theorem Sl.one' {w : World} {x0 : Int} (t : TypeId) (g : Nat → Int) (hg : ∀ i, 0 ≤ g i ∧ g i ≤ 255) (h0 : x0 = g 0) (b : Nat) (hb : b = w.heap.size) : Sl (w.alloc (.cells #[.int .u8 x0] t)) (some ⟨b, 0, none⟩) 1 1 g := by
  subst hb
  exact Sl.one t g hg h0

set_option maxRecDepth 100000 in
set_option maxHeartbeats 1600000 in
theorem rread_calls (s : ByteArray) (n : Nat) (f : Nat → Int) (w : World) (hn : n ≤ 100000) (hS : St s n f) :
    Calls Try.prog 16 #[.string s] w fun e w' => RrOut f n e ∧ Below w.heap.size w w' := by
  obtain ⟨i0, hi0, hz0, hz1, hz2⟩ := info_parts Try.info8
  have HS := hid hS
  have hsz := hS.size
  have HBD := hid hS.bd
  clear hS
  go_enter Try.func16, Try.ntmps16
  go_wp2_with fail
  go_loopg [5, 6] n (fun r v iv wr => ∃ (pos k : Nat) (g : Nat → Int), pos ≤ n ∧ k ≤ pos ∧ r = n - pos ∧ iv = .int .i64 pos ∧ Hid (Le.WR f pos g k) ∧ Hid (wr.ownsRow w.heap.size 5 1 v k (vals g k)) ∧ Hid (Below w.heap.size w wr))
  case atStart => exact ⟨0, 0, _, by omega, by omega, by omega, rfl, hid (Le.WR.zero f), hid (World.ownsRow_lit w #[] 0 (Nat.le_refl _) (by decide) rfl), hid ((Below.refl _ _).alloc (Nat.le_refl _) _)⟩
  case round =>
    obtain ⟨pos, k, g, hpos, hkp, rfl, rfl, HWR, HO, HB⟩ := hrel
    by_cases hlt : pos < n
    · have h1 : (pos : Int) < n := by omega
      have h0 : (0 : Int) ≤ pos := by omega
      have h2 : (pos : Int) ≤ n := by omega
      have HX : Hid (St (s.extract pos n) (n - pos) (Le.sh f pos)) := HS.out.extract pos n (by omega) (Nat.le_refl _)
      obtain ⟨⟨p, c, mo⟩, hd⟩ : ∃ d, Utf.dec (Le.sh f pos) (n - pos) true = d := ⟨_, rfl⟩
      have HD := hid hd
      clear hd
      go_wp2_with fail
      refine (refDecode_calls _ _ _ true _ HX.out (by unfold maxLen; omega)).mono ?_
      rintro e w2 ⟨rfl, hb2⟩
      rw [HD.out]
      unfold DA
      have O2 := hid (own_below HO.out hb2)
      have B2 := hid (HB.out.trans (hb2.mono HB.out.size))
      have sz := B2.out.size
      clear hb2 HO HB
      go_wp2_with fail
      refine (rbyte_calls _ _).mono ?_
      rintro e w3 ⟨rfl, hw3⟩
      subst hw3
      by_cases hy : 0 ≤ Le.byt p
      · obtain ⟨d, hcd, hd1, hd2, hmore⟩ := HWR.out.more HBD.out hlt HD.out hy
        subst hcd
        have bb := Le.byt_bd p
        obtain ⟨x, hx⟩ : ∃ x, Le.byt p = x := ⟨_, rfl⟩
        rw [hx] at hmore bb hy ⊢
        have hy' : ¬ x < 0 := by omega
        have HM := hid hmore
        have hx255 := bb.2
        clear hmore hx bb
        have SX := fun (W : World) => Sl.one' (w := W) (x0 := x) 5 (fun _ => x) (fun _ => ⟨hy, hx255⟩) rfl (w2.heap.size + 1)
        go_wp2_with (at_builtin; refine wpList_append_sl rfl _ _ 28 rfl w.heap.size 5 i0 Try.underlying28 hi0 hz0 hz1 hz2 u5 k g rfl ((O2.out.alloc _).alloc _) (some ⟨w2.heap.size + 1, 0, none⟩) 1 1 _ rfl (SX _ (by simp)) (by omega) (by simp; omega) ?_)
        intro v4 w4 ho4 hg4
        have B4 := hid (((B2.out.alloc sz _).alloc (by simp; omega) _).grown hg4 (by simp; omega) (fun j hj => (O2.out.lt j hj).1))
        have O4 := hid ho4
        have hcN : w4.cell? ⟨w2.heap.size, 1, none⟩ = some (.int .i64 d) := hg4.cell (by simp) (fun e => by
          have := (O2.out.lt w2.heap.size e.symm).2
          omega)
        clear ho4 hg4
        go_wp2_with fail
        go_roundg (n - (pos + d))
        case measure => omega
        case rel => exact ⟨pos + d, k + 1, _, by omega, by omega, rfl, by go_num, HM, O4, B4⟩
      · have hy' : Le.byt p < 0 := by omega
        obtain ⟨x, hx⟩ : ∃ x, Le.byt p = x := ⟨_, rfl⟩
        rw [hx] at hy' ⊢
        have HN := hid hy'
        have HXX := hid hx
        clear hy hx
        go_wp2_with fail
        go_ret3
        exact ⟨Or.inr ⟨pos, ⟨hlt, ⟨g, k, HWR.out⟩, by rw [HD.out]; show Le.byt p < 0; rw [HXX.out]; exact HN.out⟩, rfl⟩, B2.out.alloc sz _⟩
    · obtain rfl : pos = n := by omega
      have h1 : ¬ (pos : Int) < pos := by omega
      obtain ⟨a5, c5, rfl, hs5⟩ := Sl.own HO.out HWR.out.bd
      have cv := run_convert_sl (P := Try.prog) wr 28 5 9 Try.underlying28 Try.underlying5 Try.underlying9 hs5
      clear HO hs5
      go_wp2_with fail
      go_ret3
      exact ⟨Or.inl ⟨g, k, HWR.out, rfl⟩, HB.out⟩
end Go.Proofs.Ytaejoleijmihhaa
