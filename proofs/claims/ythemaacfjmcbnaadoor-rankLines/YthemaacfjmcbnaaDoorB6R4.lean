/-
  The walk of the reference's Decode at a text.
-/
import Derived.Test.YthemaacfjmcbnaaDoorB6R3
import Derived.Test.YthemaacfjmcbnaaDoorB6W2
namespace Go.Proofs.YthemaacfjmcbnaaDoor
open Go.RowKit
set_option linter.unusedVariables false

namespace B6
/-- The bits that wait behind i signs. -/
def many (i : Nat) : Nat := 6 * i % 8
end B6

set_option maxRecDepth 100000 in
set_option maxHeartbeats 3200000 in
theorem rdecode_good (s : ByteArray) (n : Nat) (f : Nat → Int) (w : World) (hn : n ≤ 100000) (hS : St s n f) (hG : B6.Good f n) :
    Calls Tryd.prog 23 #[.string s] w fun e w' => e = .returned (.tuple #[.string (str (B6.decF f) (B6.decN f n)), .int .i64 0, .bool true]) ∧ Below w.heap.size w w' := by
  obtain ⟨i0, hi0, hz0, hz1, hz2⟩ := info_parts Tryd.infoB
  have HS := hid hS
  obtain ⟨hsz, hget, hbd⟩ := hS
  have HBD := hid hbd
  have HG := hid hG
  have h4 := B6.good_mod hG
  obtain ⟨L, hLn, hLs, hLp, hLd⟩ := B6.good_len hG
  have HLS := hid hLs
  have HLP := hid hLp
  have HLD := hid hLd
  clear hG hbd hLs hLp hLd
  have h4' : (n : Int) % 4 = 0 := by omega
  have h4'' : (n : Int).tmod 4 = 0 := by rw [Int.tmod_eq_emod_of_nonneg (by omega)]; exact h4'
  go_enter Tryd.func23, Tryd.ntmps23
  go_wp2_with fail
  go_loopg [5] n (fun r mv wr => ∃ m : Nat, m ≤ n ∧ r = n - m ∧ mv = .int .i64 m ∧ w = wr)
  case atStart => exact ⟨0, by omega, by omega, rfl, rfl⟩
  case round =>
    obtain ⟨m, hmp, rfl, rfl, rfl⟩ := hrel
    by_cases hlt : m < n
    · have h1 : (m : Int) < n := by omega
      have hw1 : IntKind.i64.wrap ((m : Int) + 1) = (m : Int) + 1 := i64_in (by omega) (by omega)
      have hq0 : (0 : Int) ≤ (m : Int) + 1 := by omega
      have hq1 : (m : Int) + 1 ≤ n := by omega
      have hx := HS.out.extract 0 (m + 1) (by omega) (by omega)
      rw [show m + 1 - 0 = m + 1 by omega] at hx
      have HX := hid hx
      have HBG := hid (show B6.Begins (fun k => f (0 + k)) m from ((B6.begins_congr (fun i _ => by rw [Nat.zero_add])).trans (B6.begins_iff hlt)).2 (B6.good_beg HG.out m hlt))
      clear hx
      go_wp2_with fail
      refine (begins_calls _ m _ _ (by omega) HX.out).mono ?_
      rintro e w ⟨hb, rfl⟩
      rcases hb.of with ⟨rfl, q⟩ | ⟨rfl, q⟩
      rotate_left
      · exact absurd HBG.out q
      clear hb q
      go_wp2_with fail
      go_roundg (n - (m + 1))
      case measure => omega
      case rel => exact ⟨m + 1, by omega, rfl, by go_num, rfl⟩
    · obtain rfl : m = n := by omega
      have h1 : ¬ (m : Int) < m := by omega
      go_wp2_with fail
      go_loopg [6, 7, 8, 9] m (fun r v bv mv iv wr => ∃ (i q : Nat) (B : Int), i ≤ L ∧ r = m - i ∧ iv = .int .i64 i ∧ mv = .int .i64 (B6.many i) ∧ bv = .int .i64 B ∧ Hid (B6.Tail2 f i B) ∧ Hid (q = 3 * i / 4) ∧ Hid (wr.ownsRow w.heap.size 5 1 v q (vals (B6.decF f) q)) ∧ Hid (Below w.heap.size w wr))
      case atStart => exact ⟨0, 0, 0, by omega, by omega, rfl, rfl, rfl, hid (B6.tail_zero f), hid rfl, hid (World.ownsRow_lit w #[] 0 (Nat.le_refl _) (by decide) rfl), hid ((Below.refl _ _).alloc (Nat.le_refl _) _)⟩
      case round =>
        obtain ⟨i, q, B, hi, rfl, rfl, rfl, rfl, HT, HQ, HO, HB⟩ := hrel
        by_cases hiL : i < L
        · have h1 : (i : Int) < m := by omega
          have h0 : (0 : Int) ≤ i := by omega
          have hb := HBD.out i
          have hv := HLS.out i hiL
          have hne := B6.val_ne hv
          have hne' : (f i == 61) = false := by simpa using hne
          obtain ⟨v, hvv⟩ : ∃ v, B6.val (f i) = v := ⟨_, rfl⟩
          rw [hvv] at hv
          have hv63 : v ≤ 63 := by rw [← hvv]; exact (B6.val_bd _).2
          have HV := hid hvv
          obtain ⟨t0, t1, t2, t3⟩ := HT.out
          obtain ⟨B', hB'⟩ : ∃ B', (B * 64 + v) % 65536 = B' := ⟨_, rfl⟩
          have hBt : (B * 64 + v).tmod 65536 = B' := by rw [Int.tmod_eq_emod_of_nonneg (by omega)]; exact hB'
          have HT' := hid (show B6.Tail2 f (i + 1) B' by rw [← hB', ← hvv]; exact B6.tail_step HT.out (by rw [hvv]; exact hv))
          have hB0 : 0 ≤ B' := HT'.out.1
          have hB1 : B' < 65536 := HT'.out.2.1
          have hwB : IntKind.i64.wrap (B * 64 + v) = B * 64 + v := i64_in (by omega) (by omega)
          clear hne hvv t2 t3
          have hr : i % 4 = 0 ∨ i % 4 = 1 ∨ i % 4 = 2 ∨ i % 4 = 3 := by omega
          have sz := HB.out.size
          rcases hr with hr | hr | hr | hr
          · rw [show B6.many i = 0 by unfold B6.many; omega]
            have HM := hid (show B6.many (i + 1) = 6 by unfold B6.many; omega)
            go_wp2_with fail
            refine (value_calls _ hb.1 hb.2 _).mono ?_
            rintro e wr ⟨rfl, rfl⟩
            rw [HV.out]
            go_wp2_with fail
            go_roundg (m - (i + 1))
            case measure => omega
            case rel => exact ⟨i + 1, q, B', by omega, rfl, by go_num, by rw [HM.out]; rfl, rfl, HT', hid (by have := HQ.out; omega), HO, HB⟩
          · rw [show B6.many i = 6 by unfold B6.many; omega]
            have HM := hid (show B6.many (i + 1) = 4 by unfold B6.many; omega)
            have HD := hid (show B' / 16 % 256 = B6.decF f q by
              rw [(B6.tail_byte (g := i / 4) HT'.out).1 (by omega)]
              congr 1
              have := HQ.out; omega)
            have hx0 : 0 ≤ B' / 16 % 256 ∧ B' / 16 % 256 ≤ 255 := by omega
            have hq63 : q + 1 ≤ 140737488355328 := by have := HQ.out; omega
            go_wp2_with fail
            refine (value_calls _ hb.1 hb.2 _).mono ?_
            rintro e wr ⟨rfl, rfl⟩
            rw [HV.out]
            have S1 := hid (Sl.one (w := wr) (x0 := B' / 16 % 256) 5 (fun _ => B' / 16 % 256) (fun _ => hx0) rfl)
            go_wp2_with (at_builtin; refine wpList_append_sl rfl _ _ 26 rfl w.heap.size 5 i0 Tryd.underlying26 hi0 hz0 hz1 hz2 u6 q (B6.decF f) rfl (HO.out.alloc _) (some ⟨wr.heap.size, 0, none⟩) 1 1 _ rfl S1.out hq63 (by simp; omega) ?_)
            intro v5 w5 ho5 hg5
            have B5 := hid ((HB.out.alloc sz _).grown hg5 (by simp; omega) (fun j hj => (HO.out.lt j hj).1))
            have O5 := hid (show w5.ownsRow w.heap.size 5 1 v5 (q + 1) (vals (B6.decF f) (q + 1)) by
              rw [vals_congr (g := cat (B6.decF f) q (fun _ => B' / 16 % 256)) (fun j hj => ?_)]
              · exact ho5
              · by_cases e : j < q
                · rw [cat_lt e]
                · rw [cat_ge (by omega), show j = q by omega, HD.out])
            clear ho5 hg5
            go_wp2_with fail
            go_roundg (m - (i + 1))
            case measure => omega
            case rel => exact ⟨i + 1, q + 1, B', by omega, rfl, by go_num, by rw [HM.out]; rfl, rfl, HT', hid (by have := HQ.out; omega), O5, B5⟩
          · rw [show B6.many i = 4 by unfold B6.many; omega]
            have HM := hid (show B6.many (i + 1) = 2 by unfold B6.many; omega)
            have HD := hid (show B' / 4 % 256 = B6.decF f q by
              rw [(B6.tail_byte (g := i / 4) HT'.out).2.1 (by omega)]
              congr 1
              have := HQ.out; omega)
            have hx0 : 0 ≤ B' / 4 % 256 ∧ B' / 4 % 256 ≤ 255 := by omega
            have hq63 : q + 1 ≤ 140737488355328 := by have := HQ.out; omega
            go_wp2_with fail
            refine (value_calls _ hb.1 hb.2 _).mono ?_
            rintro e wr ⟨rfl, rfl⟩
            rw [HV.out]
            have S1 := hid (Sl.one (w := wr) (x0 := B' / 4 % 256) 5 (fun _ => B' / 4 % 256) (fun _ => hx0) rfl)
            go_wp2_with (at_builtin; refine wpList_append_sl rfl _ _ 26 rfl w.heap.size 5 i0 Tryd.underlying26 hi0 hz0 hz1 hz2 u6 q (B6.decF f) rfl (HO.out.alloc _) (some ⟨wr.heap.size, 0, none⟩) 1 1 _ rfl S1.out hq63 (by simp; omega) ?_)
            intro v5 w5 ho5 hg5
            have B5 := hid ((HB.out.alloc sz _).grown hg5 (by simp; omega) (fun j hj => (HO.out.lt j hj).1))
            have O5 := hid (show w5.ownsRow w.heap.size 5 1 v5 (q + 1) (vals (B6.decF f) (q + 1)) by
              rw [vals_congr (g := cat (B6.decF f) q (fun _ => B' / 4 % 256)) (fun j hj => ?_)]
              · exact ho5
              · by_cases e : j < q
                · rw [cat_lt e]
                · rw [cat_ge (by omega), show j = q by omega, HD.out])
            clear ho5 hg5
            go_wp2_with fail
            go_roundg (m - (i + 1))
            case measure => omega
            case rel => exact ⟨i + 1, q + 1, B', by omega, rfl, by go_num, by rw [HM.out]; rfl, rfl, HT', hid (by have := HQ.out; omega), O5, B5⟩
          · rw [show B6.many i = 2 by unfold B6.many; omega]
            have HM := hid (show B6.many (i + 1) = 0 by unfold B6.many; omega)
            have HD := hid (show B' % 256 = B6.decF f q by
              rw [(B6.tail_byte (g := i / 4) HT'.out).2.2 (by omega)]
              congr 1
              have := HQ.out; omega)
            have hx0 : 0 ≤ B' % 256 ∧ B' % 256 ≤ 255 := by omega
            have hq63 : q + 1 ≤ 140737488355328 := by have := HQ.out; omega
            go_wp2_with fail
            refine (value_calls _ hb.1 hb.2 _).mono ?_
            rintro e wr ⟨rfl, rfl⟩
            rw [HV.out]
            have S1 := hid (Sl.one (w := wr) (x0 := B' % 256) 5 (fun _ => B' % 256) (fun _ => hx0) rfl)
            go_wp2_with (at_builtin; refine wpList_append_sl rfl _ _ 26 rfl w.heap.size 5 i0 Tryd.underlying26 hi0 hz0 hz1 hz2 u6 q (B6.decF f) rfl (HO.out.alloc _) (some ⟨wr.heap.size, 0, none⟩) 1 1 _ rfl S1.out hq63 (by simp; omega) ?_)
            intro v5 w5 ho5 hg5
            have B5 := hid ((HB.out.alloc sz _).grown hg5 (by simp; omega) (fun j hj => (HO.out.lt j hj).1))
            have O5 := hid (show w5.ownsRow w.heap.size 5 1 v5 (q + 1) (vals (B6.decF f) (q + 1)) by
              rw [vals_congr (g := cat (B6.decF f) q (fun _ => B' % 256)) (fun j hj => ?_)]
              · exact ho5
              · by_cases e : j < q
                · rw [cat_lt e]
                · rw [cat_ge (by omega), show j = q by omega, HD.out])
            clear ho5 hg5
            go_wp2_with fail
            go_roundg (m - (i + 1))
            case measure => omega
            case rel => exact ⟨i + 1, q + 1, B', by omega, rfl, by go_num, by rw [HM.out]; rfl, rfl, HT', hid (by have := HQ.out; omega), O5, B5⟩
        · obtain rfl : i = L := by omega
          obtain rfl : q = B6.decN f m := by rw [HQ.out, HLD.out]
          obtain ⟨a5, c5, rfl, hs5⟩ := Sl.own HO.out (B6.decF_bd f)
          have cv := run_convert_sl (P := Tryd.prog) wr 26 5 9 Tryd.underlying26 Tryd.underlying5 Tryd.underlying9 hs5
          clear HO hs5
          by_cases hlm : i < m
          · have h1 : (i : Int) < m := by omega
            have h0 : (0 : Int) ≤ i := by omega
            have h61 := HLP.out hlm
            go_wp2_with fail
            go_ret3
            exact ⟨rfl, HB.out⟩
          · have h1 : ¬ (i : Int) < m := by omega
            go_wp2_with fail
            go_ret3
            exact ⟨rfl, HB.out⟩
end Go.Proofs.YthemaacfjmcbnaaDoor
