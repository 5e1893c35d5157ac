/-
  The walk of the law RingQueue.
-/
import Derived.Test.YtgjeiikjpacocaaRgQ
import Derived.Test.YtgjeiikjpacocaaRgS
import Derived.Test.YtgjeiikjpacocaaSb
namespace Go.Proofs.Ytgjeiikjpacocaa
open Go.RowKit
open RB (RnB)
set_option linter.unusedVariables false

theorem own_nilrow {w : World} {base : Nat} {e : TypeId} (b : Nat) (hb : b = w.heap.size) (h : base ≤ w.heap.size) : (w.alloc (.cells #[] e)).ownsRow base e 1 (.slice (some ⟨b, 0, none⟩) 0 0) 0 [] := own_empty b hb h
theorem Try.infoQ : (Try.prog.info? 5).map (fun i => (i.zero, i.size, i.bytes)) = some (some (.int .u8 0), 1, 1) := by kernel_rfl

theorem new_xb (w : World) (room : Nat) (h : room ≤ 1048576) (f : Nat → Int) : Calls Try.prog 17 #[.int .i64 room] w fun e w' => ∃ B, e = .returned (RB.ptr B) ∧ RnB w' B none room 0 0 f ∧ Below w.heap.size w w' ∧ ∀ k, own B none k → w.heap.size ≤ k ∧ k < w'.heap.size := by
  refine (RB.new_ok room h f w).mono ?_
  rintro e w1 ⟨rfl, r1, b1⟩
  exact ⟨_, rfl, r1, b1, fun k hk => ⟨(by rcases hk with hk | hk; exact Nat.le_of_eq hk.symm; cases hk), r1.ltOwn hk⟩⟩

set_option maxRecDepth 100000 in
set_option maxHeartbeats 1600000 in
theorem ringQueue_long (a : Option Addr) (n cap : Nat) (hn : 500 < n) (room s : Int) (w : World) :
    Calls Try.prog 5 #[.slice a n cap, .int .u8 room, .int .u8 s] w fun e w' => e = .returned (.bool true) ∧ Below w.heap.size w w' := by
  have t3 : (500 : Int) < n := by omega
  go_enter Try.func5, Try.ntmps5
  go_wp2_with fail
  refine (fixed_calls _).mono ?_
  rintro e w2 ⟨rfl, b2⟩
  go_wp2_with fail
  go_ret
  exact ⟨rfl, b2⟩

set_option maxRecDepth 100000 in
set_option maxHeartbeats 3200000 in
theorem ringQueue_none (a : Option Addr) (n cap : Nat) (f : Nat → Int) (hn : n ≤ 500) (s : Nat) (hs : s ≤ 255) (w : World) (SL : Sl w a n cap f) :
    Calls Try.prog 5 #[.slice a n cap, .int .u8 0, .int .u8 s] w fun e w' => e = .returned (.bool true) ∧ Below w.heap.size w w' := by
  obtain ⟨i0, hi0, hz0, hz1, hz2⟩ := info_parts Try.infoQ
  have P := hid (new_xb w 0 (by omega) (fun _ => 0))
  have t3 : ¬ (500 : Int) < n := by omega
  have HSL := hid SL
  clear SL
  obtain ⟨st, hst⟩ : ∃ st : Nat, st = 1 + s % 7 := ⟨_, rfl⟩
  obtain ⟨r7, hr7⟩ : ∃ r7 : Int, r7 = (s % 7 : Nat) := ⟨_, rfl⟩
  have u1 : IntKind.i64.wrap (s : Int) = s := i64_in (by omega) (by omega)
  have u2 : (s : Int).tmod 7 = r7 := by rw [Int.tmod_eq_emod_of_nonneg (by omega)]; omega
  have u3 : IntKind.i64.wrap r7 = r7 := i64_in (by omega) (by omega)
  have u4 : IntKind.i64.wrap (1 + r7) = st := by rw [i64_in (by omega) (by omega)]; omega
  have hs0 : 0 < st := by omega
  have HST := hid hst
  clear hst hr7
  go_enter Try.func5, Try.ntmps5
  go_wp2_with fail
  refine P.out.mono ?_
  rintro e w1 ⟨B, rfl, r1, b1, _⟩
  have b2 := b1.alloc b1.size (.cells #[] 5)
  have R2 := hid (r1.below ((Below.refl _ w1).alloc (Nat.le_refl _) (.cells #[] 5)))
  have O2 := hid (own_nilrow (e := 5) w1.heap.size rfl b1.size)
  have B2 := hid b2
  clear r1 b1 b2 P
  go_wp2_with fail
  generalize w1.alloc (.cells #[] 5) = w2 at *
  generalize w1.heap.size = ob at *
  clear t3 u1 u2 u3 u4
  go_loopg [8, 30] n (fun k v iv wr => ∃ j : Nat, k = n - j ∧ j ≤ n ∧ v = .slice (some ⟨ob, 0, none⟩) 0 0 ∧ iv = .int .i64 j ∧ w2 = wr)
  case atStart => exact ⟨0, rfl, by omega, rfl, rfl, rfl⟩
  case round =>
    obtain ⟨j, rfl, hj, rfl, rfl, rfl⟩ := hrel
    by_cases hlt : j < n
    · have h1 : (j : Int) < n := by omega
      have h0 : (0 : Int) ≤ j := by omega
      have e2 : IntKind.i64.wrap ((j : Int) + 1) = j + 1 := i64_in (by omega) (by omega)
      obtain ⟨b, off, rfl, hbl, hc⟩ := HSL.out.at' (by omega)
      have q0 := hc j hlt
      rw [← B2.out.cell (p := ⟨b, off + j, none⟩) hbl] at q0
      clear hc
      obtain ⟨d, hd⟩ : ∃ d : Int, d = (j % st : Nat) := ⟨_, rfl⟩
      have v1 : (j : Int).tmod st = d := by rw [Int.tmod_eq_emod_of_nonneg (by omega), hd]; rfl
      have hdl : j % st < st := Nat.mod_lt _ hs0
      have v2 : IntKind.i64.wrap d = d := i64_in (by omega) (by have := HST.out; omega)
      have v3 : (st : Int) ≠ 0 := by omega
      have v4 : ¬ st = 0 := by omega
      clear hd hdl
      go_wp2_with fail
      go_loopg [8] 0 (fun q v wi => q = 0 ∧ v = .slice (some ⟨ob, 0, none⟩) 0 0 ∧ w2 = wi)
      case atStart => exact ⟨rfl, rfl, rfl⟩
      case round =>
        obtain ⟨rfl, rfl, rfl⟩ := hrel
        go_wp2_with fail
        refine (RB.len_n R2.out).mono ?_
        rintro e w2 ⟨rfl, rfl⟩
        go_wp2_with fail
        refine (RB.push_full R2.out (f j)).mono ?_
        rintro e w2 ⟨rfl, rfl⟩
        by_cases hd0 : d = 0
        · have v5 : (d == 0) = true := by simp [hd0]
          clear hd0
          go_wp2_with fail
          refine (RB.shift_none R2.out).mono ?_
          rintro e w2 ⟨rfl, rfl⟩
          go_wp2_with fail
          go_roundg (n - (j + 1))
          case measure => omega
          case rel => exact ⟨j + 1, rfl, by omega, rfl, by go_num, rfl⟩
        · have v5 : (d == 0) = false := by simp [hd0]
          clear hd0
          go_wp2_with fail
          go_roundg (n - (j + 1))
          case measure => omega
          case rel => exact ⟨j + 1, rfl, by omega, rfl, by go_num, rfl⟩
    · have h1 : ¬ (j : Int) < n := by omega
      go_wp2_with fail
      refine (RB.all_n R2.out).mono ?_
      rintro e w3 ⟨a1, rfl, ha⟩
      obtain rfl := ha.nil rfl
      have B3 := hid (B2.out.trans (ha.below.mono B2.out.size))
      have O3 := hid (own_below O2.out ha.below)
      clear ha
      go_wp2_with (at_builtin; refine wpList_append_src rfl _ _ 40 rfl w.heap.size 5 i0 _ 1 1 Try.underlying40 hi0 hz0 hz1 hz2 rfl (by omega) (.slice (some ⟨ob, 0, none⟩) 0 0) 0 [] rfl O3.out none 0 0 [] rfl ⟨rfl, fun u hu => (by cases hu), fun _ => ⟨rfl, rfl⟩, fun ad ha => (by cases ha)⟩ (by unfold maxLen; omega) (by omega) B3.out.size ?_)
      intro v4 w4 ho4 hg4 ha4
      have B4 := hid (B3.out.grown hg4 B3.out.size (fun k hk => (O3.out.lt k hk).1))
      clear ho4 hg4 ha4
      go_wp2_with fail
      refine (fixed_calls _).mono ?_
      rintro e w5 ⟨rfl, b5⟩
      have B5 := hid (B4.out.trans (b5.mono B4.out.size))
      clear b5
      go_wp2_with fail
      go_ret
      exact ⟨rfl, B5.out⟩
set_option maxRecDepth 100000 in
set_option maxHeartbeats 4000000 in
theorem ringQueue_some (a : Option Addr) (n cap : Nat) (f : Nat → Int) (hn : n ≤ 500) (room : Nat) (hr0 : 0 < room) (hr : room ≤ 255) (s : Nat) (hs : s ≤ 255) (w : World) (SL : Sl w a n cap f) :
    Calls Try.prog 5 #[.slice a n cap, .int .u8 room, .int .u8 s] w fun e w' => e = .returned (.bool true) ∧ Below w.heap.size w w' := by
  obtain ⟨i0, hi0, hz0, hz1, hz2⟩ := info_parts Try.infoQ
  have P := hid (new_xb w room (by omega) (fun i => f (0 + i)))
  have t3 : ¬ (500 : Int) < n := by omega
  have HSL := hid SL
  clear SL
  obtain ⟨st, hst⟩ : ∃ st : Nat, st = 1 + s % 7 := ⟨_, rfl⟩
  obtain ⟨r7, hr7⟩ : ∃ r7 : Int, r7 = (s % 7 : Nat) := ⟨_, rfl⟩
  have u0 : IntKind.i64.wrap (room : Int) = room := i64_in (by omega) (by omega)
  have u1 : IntKind.i64.wrap (s : Int) = s := i64_in (by omega) (by omega)
  have u2 : (s : Int).tmod 7 = r7 := by rw [Int.tmod_eq_emod_of_nonneg (by omega)]; omega
  have u3 : IntKind.i64.wrap r7 = r7 := i64_in (by omega) (by omega)
  have u4 : IntKind.i64.wrap (1 + r7) = st := by rw [i64_in (by omega) (by omega)]; omega
  have hs0 : 0 < st := by omega
  have HST := hid hst
  clear hst hr7
  go_enter Try.func5, Try.ntmps5
  go_wp2_with fail
  refine P.out.mono ?_
  rintro e w1 ⟨B, rfl, r1, b1, s1⟩
  have Q2 := hid (show Qs w (w1.alloc (.cells #[] 5)) B none room 0 0 f (.slice (some ⟨w1.heap.size, 0, none⟩) 0 0) from
    ⟨r1.below ((Below.refl _ w1).alloc (Nat.le_refl _) (.cells #[] 5)), own_nilrow (e := 5) w1.heap.size rfl b1.size, fun k hk e => by
      have h1 := (s1 k hk).2
      simp [Value.ownBlock] at e
      omega, b1.alloc b1.size _, fun k hk => (s1 k hk).1⟩)
  clear r1 b1 s1 P
  go_wp2_with fail
  generalize w1.alloc (.cells #[] 5) = w2 at *
  generalize w1.heap.size = ob at *
  clear t3 u1 u2 u3 u4
  have g0 : (0 : Int) < room := by omega
  go_loopg [8, 30] n (fun k v iv wr => ∃ j q cnt o, k = n - j ∧ j ≤ n ∧ iv = .int .i64 (j : Nat) ∧ Hid (q + cnt = j) ∧ Hid (Qs w wr B o room q cnt f v))
  case atStart => exact ⟨0, 0, 0, none, rfl, by omega, rfl, hid rfl, Q2⟩
  case round =>
    obtain ⟨j, q, cnt, o, rfl, hj, rfl, HQ, QS⟩ := hrel
    clear Q2
    by_cases hlt : j < n
    · have h1 : (j : Int) < n := by omega
      have h0 : (0 : Int) ≤ j := by omega
      have e2 : IntKind.i64.wrap ((j : Int) + 1) = j + 1 := i64_in (by omega) (by omega)
      obtain ⟨b, off, rfl, hbl, hc⟩ := HSL.out.at' (by omega)
      have q0 := hc j hlt
      rw [← QS.out.bel.cell (p := ⟨b, off + j, none⟩) hbl] at q0
      clear hc
      obtain ⟨d, hd⟩ : ∃ d : Int, d = (j % st : Nat) := ⟨_, rfl⟩
      have v1 : (j : Int).tmod st = d := by rw [Int.tmod_eq_emod_of_nonneg (by omega), hd]; rfl
      have hdl : j % st < st := Nat.mod_lt _ hs0
      have v2 : IntKind.i64.wrap d = d := i64_in (by omega) (by have := HST.out; omega)
      have v3 : (st : Int) ≠ 0 := by omega
      have v4 : ¬ st = 0 := by omega
      clear hd hdl
      go_wp2_with fail
      clear q0
      go_loopg [8] cnt (fun m v wi => ∃ q c o, Hid (m = c) ∧ Hid (q + c = j) ∧ Hid (Qs w wi B o room q c f v))
      case atStart => exact ⟨q, cnt, o, hid rfl, HQ, QS⟩
      case round =>
        clear HQ QS
        obtain ⟨q, c, o, HM, HQ, QS⟩ := hrel
        have hcr := QS.out.rn.cle
        have hql : q ≤ 500 := by have := HQ.out; omega
        go_wp2_with fail
        refine (RB.len_n QS.out.rn).mono ?_
        rintro e wr ⟨rfl, rfl⟩
        by_cases hcc : c = room
        · have t1 : ((c : Int) == room) = true := by simp [hcc]
          obtain ⟨c', hc'⟩ : ∃ c', c = c' + 1 := ⟨c - 1, by omega⟩
          have HC := hid hc'
          have HCC := hid hcc
          clear hcc hc'
          go_wp2_with fail
          refine (RB.shift_n QS.out.rn c' HC.out (by omega)).mono ?_
          rintro e w3 ⟨rfl, r3, m3⟩
          have R3 := hid r3
          have M3 := hid m3
          have O3 := hid (QS.out.row m3).1
          have B3 := hid (QS.out.row m3).2
          clear r3 m3
          rw [Nat.add_zero]
          go_wp2_with (at_builtin; refine wpList_append_src rfl _ _ 40 rfl w.heap.size 5 i0 _ 1 1 Try.underlying40 hi0 hz0 hz1 hz2 rfl (by omega) u8 q (kv .u8 f q) rfl (O3.out.alloc _) (some ⟨w3.heap.size, 0, none⟩) 1 1 #[.int .u8 (f q)].toList rfl (Src.new (w := w3) #[.int .u8 (f q)] 5 w3.heap.size rfl rfl (by simp [Value.oneCell'])) (by unfold maxLen; omega) (by omega) (by have := B3.out.size; simp; omega) ?_)
          intro v4 w4 ho4 hg4 ha4
          rw [show kv .u8 f q ++ #[Value.int .u8 (f q)].toList = kv .u8 f (q + 1) from kv_snoc .u8 f q] at ho4
          have Q4 := hid (QS.out.taken R3.out M3.out #[.int .u8 (f q)] ho4 hg4 (by simpa using ha4))
          clear ho4 hg4 ha4
          go_wp2_with fail
          go_roundg c'
          case measure => have := HC.out; have := HM.out; omega
          case rel => exact ⟨q + 1, c', o, hid rfl, hid (by have := HC.out; have := HQ.out; omega), Q4⟩
        · have t1 : ((c : Int) == room) = false := by simp; omega
          have hlc : c < room := by omega
          clear hcc
          go_wp2_with fail
          refine (RB.push_n QS.out.rn hlc (by omega) (f j)).mono ?_
          rintro e w3 ⟨rfl, o3, r3, m3, h3⟩
          have Q3 := hid (QS.out.push (by rw [HQ.out]; exact r3) m3 h3)
          clear r3 m3 h3
          by_cases hd0 : d = 0
          · have v5 : (d == 0) = true := by simp [hd0]
            clear hd0
            go_wp2_with fail
            refine (RB.shift_n Q3.out.rn c rfl (by omega)).mono ?_
            rintro e w4 ⟨rfl, r4, m4⟩
            have R4 := hid r4
            have M4 := hid m4
            have O4 := hid (Q3.out.row m4).1
            have B4 := hid (Q3.out.row m4).2
            clear r4 m4
            rw [Nat.add_zero]
            go_wp2_with (at_builtin; refine wpList_append_src rfl _ _ 40 rfl w.heap.size 5 i0 _ 1 1 Try.underlying40 hi0 hz0 hz1 hz2 rfl (by omega) u8 q (kv .u8 f q) rfl (O4.out.alloc _) (some ⟨w4.heap.size, 0, none⟩) 1 1 #[.int .u8 (f q)].toList rfl (Src.new (w := w4) #[.int .u8 (f q)] 5 w4.heap.size rfl rfl (by simp [Value.oneCell'])) (by unfold maxLen; omega) (by omega) (by have := B4.out.size; simp; omega) ?_)
            intro v5 w5 ho5 hg5 ha5
            rw [show kv .u8 f q ++ #[Value.int .u8 (f q)].toList = kv .u8 f (q + 1) from kv_snoc .u8 f q] at ho5
            have Q5 := hid (Q3.out.taken R4.out M4.out #[.int .u8 (f q)] ho5 hg5 (by simpa using ha5))
            clear ho5 hg5 ha5
            go_wp2_with fail
            go_roundg (n - (j + 1))
            case measure => omega
            case rel => exact ⟨j + 1, q + 1, c, o3, rfl, by omega, by go_num, hid (by have := HQ.out; omega), Q5⟩
          · have v5 : (d == 0) = false := by simp [hd0]
            clear hd0
            go_wp2_with fail
            go_roundg (n - (j + 1))
            case measure => omega
            case rel => exact ⟨j + 1, q, c + 1, o3, rfl, by omega, by go_num, hid (by have := HQ.out; omega), Q3⟩
    · have h1 : ¬ (j : Int) < n := by omega
      have hcr := QS.out.rn.cle
      have hql : q ≤ 500 := by have := HQ.out; omega
      go_wp2_with fail
      refine (RB.all_n QS.out.rn).mono ?_
      rintro e w3 ⟨a1, rfl, ha⟩
      have O3 := hid (own_below QS.out.ow ha.below)
      have B3 := hid (QS.out.bel.trans (ha.below.mono QS.out.bel.size))
      have SR := hid (show Src w3 a1 cnt cnt 1 (kv .u8 (fun i => f (q + i)) cnt) from
        ⟨by rw [kv_length, Nat.mul_one], kv_one _ _ _, fun e => by
          by_cases h0 : 0 < cnt
          · rw [(ha.at' h0).1] at e; cases e
          · exact ⟨by omega, by omega⟩, fun ad hd j u hu => by
          obtain ⟨hj, rfl⟩ := kv_inv hu
          obtain ⟨rfl, hb⟩ := ha.at' (by omega)
          cases hd
          exact World.news_of_block hb j _ (by simpa using hu)⟩)
      clear ha
      go_wp2_with (at_builtin; refine wpList_append_src rfl _ _ 40 rfl w.heap.size 5 i0 _ 1 1 Try.underlying40 hi0 hz0 hz1 hz2 rfl (by omega) u8 q (kv .u8 f q) rfl O3.out a1 cnt cnt (kv .u8 (fun i => f (q + i)) cnt) rfl SR.out (by unfold maxLen; omega) (by omega) B3.out.size ?_)
      intro v4 w4 ho4 hg4 ha4
      have B4 := hid (B3.out.grown hg4 B3.out.size (fun k hk => (O3.out.lt k hk).1))
      have hqn : q + cnt = n := by have := HQ.out; omega
      have O4 := hid (show w4.ownsRow w.heap.size 5 1 v4 n (vals f n) from by
        rw [hqn] at ho4
        have e : kv .u8 f q ++ kv .u8 (fun i => f (q + i)) cnt = vals f n := by
          apply List.ext_getElem?
          intro i
          by_cases hi : i < q
          · rw [List.getElem?_append_left (by rw [kv_length]; exact hi), kv_get _ _ _ _ hi, vals_get _ _ _ (by omega)]
          · rw [List.getElem?_append_right (by rw [kv_length]; omega), kv_length]
            by_cases hi2 : i < n
            · rw [kv_get _ _ _ _ (by omega), vals_get _ _ _ hi2, show q + (i - q) = i by omega]
            · rw [kv_none _ _ _ _ (by omega), List.getElem?_eq_none (by rw [vals_length]; omega)]
        rw [e] at ho4
        exact ho4)
      clear ho4 hg4 ha4
      go_wp2_with fail
      refine (fixed_calls _).mono ?_
      rintro e w5 ⟨rfl, b5⟩
      have B5 := hid (B4.out.trans (b5.mono B4.out.size))
      obtain ⟨a5, c5, rfl, s5⟩ := Sl.own (own_below O4.out b5) HSL.out.bd
      have c1 := run_convert_sl (P := Try.prog) w5 40 5 9 Try.underlying40 Try.underlying5 Try.underlying9 s5
      have c2 := run_convert_sl (P := Try.prog) w5 40 5 9 Try.underlying40 Try.underlying5 Try.underlying9 (HSL.out.below B5.out)
      have t9 : ((room : Int) == 0) = false := by simp; omega
      clear b5 s5
      go_wp2_with fail
      go_ret
      exact ⟨ret_bool (by simp), B5.out⟩
theorem ringQueue_calls (a : Option Addr) (n cap : Nat) (f : Nat → Int) (room s : Int) (hr : (Lit.int .u8 room).wf = true) (hs : (Lit.int .u8 s).wf = true) (w : World) (SL : Sl w a n cap f) :
    Calls Try.prog 5 #[.slice a n cap, .int .u8 room, .int .u8 s] w fun e w' => e = .returned (.bool true) ∧ Below w.heap.size w w' := by
  by_cases hn : 500 < n
  · exact ringQueue_long a n cap hn room s w
  · have h1 : 0 ≤ room ∧ room ≤ 255 := by
      simp [Lit.wf, IntKind.min, IntKind.max, IntKind.signed, IntKind.bits] at hr
      simpa using hr
    have h2 : 0 ≤ s ∧ s ≤ 255 := by
      simp [Lit.wf, IntKind.min, IntKind.max, IntKind.signed, IntKind.bits] at hs
      simpa using hs
    obtain ⟨r, rfl⟩ : ∃ r : Nat, room = r := ⟨room.toNat, by omega⟩
    obtain ⟨t, rfl⟩ : ∃ t : Nat, s = t := ⟨s.toNat, by omega⟩
    by_cases h0 : r = 0
    · subst h0
      exact ringQueue_none a n cap f (by omega) t (by omega) w SL
    · exact ringQueue_some a n cap f (by omega) r (by omega) (by omega) t (by omega) w SL
end Go.Proofs.Ytgjeiikjpacocaa
