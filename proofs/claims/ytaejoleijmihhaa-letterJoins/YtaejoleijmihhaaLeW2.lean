/-
  Walks of letter.Write and letter.Read.
-/
import Derived.Test.YtaejoleijmihhaaLeW1
import Derived.Test.YtaejoleijmihhaaUtfE
import Derived.Test.YtaejoleijmihhaaOwn
import Derived.Test.YtaejoleijmihhaaCvb
namespace Go.Proofs.Ytaejoleijmihhaa
open Go.RowKit
set_option linter.unusedVariables false

set_option maxRecDepth 100000 in
set_option maxHeartbeats 1600000 in
theorem lwrite_calls (ao : Option Addr) (n cap : Nat) (f : Nat → Int) (w : World) (hn : n ≤ 100000) (hsl : Sl w ao n cap f) :
    Calls Try.prog 13 #[.slice ao n cap] w fun e w' => e = .returned (.string (str (Le.wrF f n) (Le.wrN f n))) ∧ Below w.heap.size w w' := by
  obtain ⟨i0, hi0, hz0, hz1, hz2⟩ := info_parts Try.info8
  have SL := hid hsl
  clear hsl
  go_enter Try.func13, Try.ntmps13
  go_wp2_with fail
  go_loopg [3, 10] n (fun r v iv wr => ∃ k : Nat, k ≤ n ∧ r = n - k ∧ iv = .int .i64 k ∧ Hid (wr.ownsRow w.heap.size 5 1 v (Le.wrN f k) (vals (Le.wrF f k) (Le.wrN f k))) ∧ Hid (Below w.heap.size w wr))
  case atStart => exact ⟨0, by omega, by omega, rfl, hid (World.ownsRow_nil _ _ _ _), hid (Below.refl _ _)⟩
  case round =>
    obtain ⟨k, hk, rfl, rfl, HO, HB⟩ := hrel
    by_cases hlt : k < n
    · have h1 : (k : Int) < n := by omega
      have h0 : (0 : Int) ≤ k := by omega
      obtain ⟨b, off, rfl, hbw, hcell⟩ := (SL.out.below HB.out).at' (by omega)
      have hck := hcell k hlt
      have hb := SL.out.bd k
      have hpt := Le.ltr_pt hb.1 hb.2
      have hen := Le.ltr_enc hb.1 hb.2
      have hwn := Le.wrN_bd SL.out.bd k
      have sz := HB.out.size
      clear hcell
      go_wp2_with fail
      refine (lof_calls _ hb.1 hb.2 _).mono ?_
      rintro e wr ⟨rfl, rfl⟩
      go_wp2_with fail
      refine (encode_yes _ _ hpt).mono ?_
      rintro e w3 ⟨rfl, hw3⟩
      have S3 := hid (encW_sl wr 5 hpt)
      rw [← hw3] at S3
      have B3' := encW_below wr 5 (Utf.encL (Le.ltr (f k)))
      rw [← hw3] at B3'
      have O3 := hid (own_below HO.out B3')
      have B3 := hid (HB.out.trans (B3'.mono sz))
      have sz3 := B3.out.size
      clear hw3 B3' HO HB hck
      go_wp2_with (at_builtin; refine wpList_append_sl rfl _ _ 28 rfl w.heap.size 5 i0 Try.underlying28 hi0 hz0 hz1 hz2 u3 (Le.wrN f k) (Le.wrF f k) rfl O3.out (some ⟨wr.heap.size, 0, none⟩) (Utf.encN (Le.ltr (f k))) (Utf.encN (Le.ltr (f k))) _ rfl S3.out (by omega) sz3 ?_)
      intro v4 w4 ho4 hg4
      have B4 := hid (B3.out.grown hg4 sz3 (fun j hj => (O3.out.lt j hj).1))
      have O4 : Hid (w4.ownsRow w.heap.size 5 1 v4 (Le.wrN f (k + 1)) (vals (Le.wrF f (k + 1)) (Le.wrN f (k + 1)))) := ho4
      clear ho4 hg4
      go_wp2_with fail
      go_roundg (n - (k + 1))
      case measure => omega
      case rel => exact ⟨k + 1, by omega, rfl, by go_num, O4, B4⟩
    · obtain rfl : k = n := by omega
      have h1 : ¬ (k : Int) < k := by omega
      obtain ⟨a5, c5, rfl, hs5⟩ := Sl.own HO.out (Le.wrF_bd SL.out.bd k)
      have cv := run_convert_sl (P := Try.prog) wr 28 5 9 Try.underlying28 Try.underlying5 Try.underlying9 hs5
      clear HO hs5
      go_wp2_with fail
      go_ret
      exact ⟨rfl, HB.out⟩

theorem B2_y {x : Int} (h : 0 ≤ x) : B2 x = .tuple #[.int .u8 x, .bool true] := by unfold B2; rw [if_pos h]; simp [h]
theorem B2_n {x : Int} (h : x < 0) : B2 x = .tuple #[.int .u8 0, .bool false] := by
  have h' : ¬ 0 ≤ x := by omega
  unfold B2; rw [if_neg h']; simp [h']

/-- What Read answers. -/
def RdOut (f : Nat → Int) (n : Nat) (e : Ending) (w' : World) : Prop :=
  (∃ g k, Le.WR f n g k ∧ ∃ a c, e = .returned (.tuple #[.slice a k c, .int .i64 0, .bool true]) ∧ Sl w' a k c g) ∨
  (∃ p, Le.Bad f n p ∧ e = .returned (.tuple #[.slice none 0 0, .int .i64 (p : Nat), .bool false]))

set_option maxRecDepth 100000 in
set_option maxHeartbeats 1600000 in
theorem lread_calls (s : ByteArray) (n : Nat) (f : Nat → Int) (w : World) (hn : n ≤ 100000) (hS : St s n f) :
    Calls Try.prog 14 #[.string s] w fun e w' => RdOut f n e w' ∧ Below w.heap.size w w' := by
  obtain ⟨i0, hi0, hz0, hz1, hz2⟩ := info_parts Try.info8
  obtain ⟨cap, w1, cv, hsl, hb1, hw1⟩ := conv_bytes (P := Try.prog) w 9 28 5 Try.underlying9 Try.underlying28 Try.underlying5 hS (by unfold maxLen; omega)
  have HBD := hid hS.bd
  have SL := hid hsl
  have B1 := hid hb1
  have HW := hid hw1
  have hcap := hsl.le
  have hmx := hsl.mx
  unfold maxLen at hmx
  clear hsl hb1 hw1 hS
  go_enter Try.func14, Try.ntmps14
  go_wp2_with fail
  go_loopg [5, 7] n (fun r v iv wr => ∃ (pos k : Nat) (g : Nat → Int), pos ≤ n ∧ k ≤ pos ∧ r = n - pos ∧ iv = .int .i64 pos ∧ Hid (Le.WR f pos g k) ∧ Hid (wr.ownsRow w1.heap.size 5 1 v k (vals g k)) ∧ Hid (Below w1.heap.size w1 wr))
  case atStart => exact ⟨0, 0, _, by omega, by omega, by omega, rfl, hid (Le.WR.zero f), hid (World.ownsRow_nil _ _ _ _), hid (Below.refl _ _)⟩
  case round =>
    obtain ⟨pos, k, g, hpos, hkp, rfl, rfl, HWR, HO, HB⟩ := hrel
    by_cases hlt : pos < n
    · have h1 : (pos : Int) < n := by omega
      have h0 : (0 : Int) ≤ pos := by omega
      have h2 : (pos : Int) ≤ n := by omega
      have h3 : (pos : Int) ≤ cap := by omega
      have h4 : (n : Int) ≤ cap := by omega
      have hne : ¬ cap = pos := by omega
      have S1 : Hid (Sl wr (some ⟨w.heap.size, pos, none⟩) (n - pos) (cap - pos) (Le.sh f pos)) := by
        have := (SL.out.cut pos hlt).below HB.out
        rw [Nat.zero_add] at this
        exact this
      obtain ⟨⟨p, c, mo⟩, hd⟩ : ∃ d, Utf.dec (Le.sh f pos) (n - pos) true = d := ⟨_, rfl⟩
      have HD := hid hd
      clear hd
      go_wp2_with fail
      refine (decode_calls _ _ _ _ true _ S1.out).mono ?_
      rintro e wr ⟨rfl, rfl⟩
      rw [HD.out]
      unfold D3
      go_wp2_with fail
      refine (lbyte_calls _ _).mono ?_
      rintro e wr ⟨rfl, rfl⟩
      by_cases hy : 0 ≤ Le.byt p
      · rw [B2_y hy]
        obtain ⟨d, hcd, hd1, hd2, hmore⟩ := HWR.out.more HBD.out hlt HD.out hy
        subst hcd
        have bb := Le.byt_bd p
        obtain ⟨x, hx⟩ : ∃ x, Le.byt p = x := ⟨_, rfl⟩
        rw [hx] at hmore bb hy ⊢
        have HM := hid hmore
        have sz := HB.out.size
        have SX := hid (Sl.one (w := wr) (x0 := x) 5 (fun _ => x) (fun _ => ⟨hy, bb.2⟩) rfl)
        clear hmore hx S1
        go_wp2_with (at_builtin; refine wpList_append_sl rfl _ _ 28 rfl w1.heap.size 5 i0 Try.underlying28 hi0 hz0 hz1 hz2 u5 k g rfl (HO.out.alloc _) (some ⟨wr.heap.size, 0, none⟩) 1 1 _ rfl SX.out (by omega) (by simp; omega) ?_)
        intro v4 w4 ho4 hg4
        have B4 := hid ((HB.out.alloc sz _).grown hg4 (by simp; omega) (fun j hj => (HO.out.lt j hj).1))
        have O4 := hid ho4
        clear ho4 hg4
        go_wp2_with fail
        go_roundg (n - (pos + d))
        case measure => omega
        case rel => exact ⟨pos + d, k + 1, _, by omega, by omega, rfl, by go_num, HM, O4, B4⟩
      · rw [B2_n (by omega)]
        have HN := hid (show Le.byt p < 0 by omega)
        clear hy S1
        go_wp2_with fail
        go_ret3
        exact ⟨Or.inr ⟨pos, ⟨hlt, ⟨g, k, HWR.out⟩, by rw [HD.out]; exact HN.out⟩, rfl⟩, B1.out.trans (HB.out.mono B1.out.size)⟩
    · obtain rfl : pos = n := by omega
      have h1 : ¬ (pos : Int) < pos := by omega
      obtain ⟨a5, c5, rfl, hs5⟩ := Sl.own HO.out HWR.out.bd
      have HS5 := hid hs5
      clear HO hs5
      go_wp2_with fail
      go_ret3
      exact ⟨Or.inl ⟨g, k, HWR.out, a5, c5, rfl, HS5.out⟩, B1.out.trans (HB.out.mono B1.out.size)⟩
end Go.Proofs.Ytaejoleijmihhaa
