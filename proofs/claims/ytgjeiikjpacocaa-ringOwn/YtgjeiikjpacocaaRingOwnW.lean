/-
  The walk of the law RingOwn.
-/
import Derived.Test.YtgjeiikjpacocaaRingPlaysW
namespace Go.Proofs.Ytgjeiikjpacocaa
open Go.RowKit RI
open Rr (row SkI cells_at kept_block alloc_block two_new)
set_option linter.unusedVariables false

/-- What All tells, as a row of the call's own. -/
theorem all_own {w w1 : World} {cnt : Nat} {f : Nat → Int} {a : Option Addr} (h : AllRow w cnt f a w1) (hn : cnt ≤ 1048576) : w1.ownsRow w.heap.size 21 1 (.slice a cnt cnt) cnt (kv .i32 f cnt) := by
  refine ⟨by rw [kv_length, Nat.mul_one], ?_⟩
  by_cases h0 : 0 < cnt
  · obtain ⟨rfl, hb⟩ := h.at' h0
    exact .inr ⟨w.heap.size, cnt, _, rfl, Nat.le_refl _, hb, Nat.le_refl _, by unfold maxLen; omega, by simp [kv_length], by show List.take (cnt * 1) (kv .i32 f cnt) = kv .i32 f cnt; exact List.take_of_length_le (by rw [kv_length, Nat.mul_one]; exact Nat.le_refl _)⟩
  · obtain rfl : cnt = 0 := by omega
    obtain rfl := h.nil rfl
    exact .inl ⟨rfl, rfl⟩

set_option maxRecDepth 100000 in
set_option maxHeartbeats 1600000 in
theorem ringOwn_long (room : Int) (a : Option Addr) (n cap : Nat) (hn : 100 < n) (x : Int) (w : World) :
    Calls Try.prog 7 #[.int .u8 room, .slice a n cap, .int .i32 x] w fun e w' => e = .returned (.bool true) ∧ Below w.heap.size w w' := by
  have t3 : (100 : Int) < n := by omega
  go_enter Try.func7, Try.ntmps7
  go_wp2_with fail
  refine (fixed_calls _).mono ?_
  rintro e w2 ⟨rfl, b2⟩
  go_wp2_with fail
  go_ret
  exact ⟨rfl, b2⟩

set_option maxRecDepth 100000 in
set_option maxHeartbeats 3200000 in
theorem ringOwn_short (room : Nat) (h : room ≤ 255) (a : Option Addr) (n cap : Nat) (L H C : Nat → Int) (hn : n ≤ 100) (x : Int) (w : World) (OS : Tri w .u8 .i32 .i64 a n cap L H C) :
    Calls Try.prog 7 #[.int .u8 room, .slice a n cap, .int .i32 x] w fun e w' => e = .returned (.bool true) ∧ Below w.heap.size w w' := by
  obtain ⟨i0, hi0, hz0, hz1, hz2⟩ := info_parts Rr.info32
  have P := hid (new_x w room (by omega) (fun _ => 0))
  have hu8 : IntKind.i64.wrap (room : Int) = room := i64_in (by omega) (by omega)
  have t3 : ¬ (100 : Int) < n := by omega
  have HOS := hid OS
  clear OS
  go_enter Try.func7, Try.ntmps7
  go_wp2_with fail
  refine P.out.mono ?_
  rintro e w1 ⟨B, rfl, r1⟩
  have R1 := hid r1
  clear r1 P
  go_wp2_with fail
  have PL := hid (show Pl w (w1.alloc (.cells #[.slice none 0 0, .int .i64 0, .int .i64 room] 29)) (fun _ => False) B w1.heap.size none room 0 0 none 0 (fun _ => 0) from by
    have b := (Below.refl _ w1).alloc (Nat.le_refl _) (.cells #[.slice none 0 0, .int .i64 0, .int .i64 room] 29)
    refine ⟨R1.out.rn.below b, Sk.nilS _ _ _ _, heap_alloc_new w1 _, R1.out.bel.trans (b.mono R1.out.bel.size), fun k hk => ?_, fun e => ?_, fun _ _ e => e, fun _ e => e.elim⟩
    · rcases hk with hk | rfl
      · exact R1.out.since k hk
      · exact R1.out.bel.size
    · exact absurd (R1.out.rn.ltOwn e) (Nat.lt_irrefl _))
  clear t3 R1
  generalize w1.alloc (.cells #[.slice none 0 0, .int .i64 0, .int .i64 room] 29) = w2 at *
  generalize w1.heap.size = mb at *
  go_loopg [27] n (fun k iv wr => ∃ j : Nat, k = n - j ∧ j ≤ n ∧ iv = .int .i64 j ∧ Hid (∃ o fr cnt av cp f, fr ≤ j ∧ Pl w wr (fun _ => False) B mb o room fr cnt av cp f))
  case atStart => exact ⟨0, rfl, by omega, rfl, hid ⟨_, 0, _, _, _, _, by omega, PL.out⟩⟩
  case round =>
    obtain ⟨j, rfl, hj, rfl, ST⟩ := hrel
    obtain ⟨o, fr, cnt, av, cp, f, hfj, pl⟩ := ST.out
    have PLr := hid pl
    clear pl ST
    have hcle := PLr.out.rn.cle
    obtain ⟨m0, m1, m2, _, _, _⟩ := cells_at PLr.out.blk
    have hmlt := PLr.out.ltM
    by_cases hlt : j < n
    · have h1 : (j : Int) < n := by omega
      have h0 : (0 : Int) ≤ j := by omega
      have e2 : IntKind.i64.wrap ((j : Int) + 1) = j + 1 := i64_in (by omega) (by omega)
      obtain ⟨b, off, rfl, hbl, hc⟩ := HOS.out.at' (by omega)
      obtain ⟨q0, q1, q2⟩ := hc j hlt
      rw [← PLr.out.bel.cell (p := ⟨b, off + j * 3, none⟩) hbl] at q0
      rw [← PLr.out.bel.cell (p := ⟨b, off + j * 3 + 1, none⟩) hbl] at q1
      rw [← PLr.out.bel.cell (p := ⟨b, off + j * 3 + 2, none⟩) hbl] at q2
      clear hc
      go_wp2_with fail
      have b1 := (Below.refl _ wr).alloc (Nat.le_refl _) (.cells #[.int .u8 (L j), .int .i32 (H j), .int .i64 (C j)] 31)
      have PL1 := hid (PLr.out.below b1)
      clear b1 m0 m1 m2 q0 q1 q2 hmlt
      generalize wr.alloc (.cells #[.int .u8 (L j), .int .i32 (H j), .int .i64 (C j)] 31) = w3 at *
      refine (PL1.out.does (by omega) (L j) (H j) (C j)).mono ?_
      rintro e w4 ⟨v, rfl, D⟩
      obtain ⟨o', fr', cnt', a', cap', f', rfl, hfr', hblk, hsz, hbel, nx⟩ := PL1.out.next D
      have NX := hid ((nx w4 (Below.refl _ _)).below ((Below.refl _ _).alloc (Nat.le_refl _) (.cells #[.slice a' cnt' cap', .int .i64 fr', .int .i64 room] 29)))
      obtain ⟨m0, m1, m2, f0, f1, f2⟩ := cells_at hblk
      have hmlt : mb < w4.heap.size := (Array.getElem?_eq_some_iff.1 hblk).1
      clear D nx hblk hbel PL1 PLr
      go_wp2_with fail
      clear m0 m1 m2 f0 f1 f2 hmlt
      generalize (((w4.setCell ⟨mb, 0, none⟩ (.slice a' cnt' cap')).setCell ⟨mb, 1, none⟩ (.int .i64 fr')).setCell ⟨mb, 2, none⟩ (.int .i64 room)).alloc (.cells #[.slice a' cnt' cap', .int .i64 fr', .int .i64 room] 29) = w5 at *
      have hcl5 := NX.out.pl.rn.cle
      have PLx := hid (show ∀ w8, Below w5.heap.size w5 w8 → Pl w w8 (fun _ => False) B mb o' room fr' cnt' a' cap' f' from fun w8 b => NX.out.pl.below b)
      refine (all_n NX.out.pl.rn).mono ?_
      rintro e w6 ⟨a1, rfl, ha1⟩
      have O6 := hid (all_own ha1 (by omega))
      have B6 := hid ha1.below
      clear ha1 NX
      go_wp2_with fail
      go_loopg [45] cnt' (fun q iv wi => ∃ i : Nat, q = cnt' - i ∧ i ≤ cnt' ∧ iv = .int .i64 i ∧ Hid (∃ xs, wi.ownsRow w5.heap.size 21 1 (.slice a1 cnt' cnt') cnt' xs) ∧ Hid (Below w5.heap.size w5 wi))
      case atStart => exact ⟨0, rfl, by omega, rfl, hid ⟨_, O6.out⟩, B6⟩
      case round =>
        obtain ⟨i, rfl, hi, rfl, O7, B7⟩ := hrel
        clear O6 B6
        by_cases hil : i < cnt'
        · have k1 : (i : Int) < cnt' := by omega
          have k0 : (0 : Int) ≤ i := by omega
          have e3 : IntKind.i64.wrap ((i : Int) + 1) = i + 1 := i64_in (by omega) (by omega)
          obtain ⟨xs, ho⟩ := O7.out
          obtain ⟨g, hg⟩ : ∃ g, a1 = some ⟨g, 0, none⟩ := by
            rcases ho.2 with ⟨hv, h0⟩ | ⟨g, cap, cur, hv, _⟩
            · omega
            · cases hv; exact ⟨g, rfl⟩
          subst hg
          have hB := (ho.lt g rfl).1
          have fz := ho.frozenAt i
          have ex : ∃ v, wr.cell? ⟨g, i, none⟩ = some v := by
            rw [ho.cellAt i (by omega)]
            exact ⟨_, List.getElem?_eq_getElem (by rw [ho.1]; omega)⟩
          have O8 := hid (ho.stored i (.int .i32 x)).1
          have B8 := hid (B7.out.setCell (p := ⟨g, i, none⟩) hB (.int .i32 x))
          clear ho
          obtain ⟨v0, c0⟩ := ex
          go_wp2_with fail
          go_roundg (cnt' - (i + 1))
          case measure => omega
          case rel => exact ⟨i + 1, rfl, by omega, by go_num, hid ⟨_, O8.out⟩, B8⟩
        · have k1 : ¬ (i : Int) < cnt' := by omega
          obtain ⟨xs, ho⟩ := O7.out
          have O8 := hid ho
          clear ho
          go_wp2_with (at_builtin; refine wpList_append_src rfl _ _ 27 rfl w5.heap.size 21 i0 _ 1 4 Try.underlying27 hi0 hz0 hz1 hz2 rfl (by omega) (.slice a1 cnt' cnt') cnt' xs rfl (O8.out.alloc _) (some ⟨wr.heap.size, 0, none⟩) 1 1 #[.int .i32 x].toList rfl (Src.new (w := wr) #[.int .i32 x] 21 wr.heap.size rfl rfl (by simp [Value.oneCell'])) (by unfold maxLen; omega) (by omega) (by have := B7.out.size; simp; omega) ?_)
          intro v8 w8 ho8 hg8 ha8
          have B9 := hid ((B7.out.alloc B7.out.size (.cells #[.int .i32 x] 21)).grown hg8 (by have := B7.out.size; simp; omega) (fun k hk => (O8.out.lt k hk).1))
          clear ho8 hg8 ha8
          go_wp2_with fail
          go_roundg (n - (j + 1))
          case measure => omega
          case rel => exact ⟨j + 1, rfl, by omega, by go_num, hid ⟨o', fr', cnt', a', cap', f', by omega, PLx.out _ B9.out⟩⟩
    · have h1 : ¬ (j : Int) < n := by omega
      go_wp2_with fail
      have P := hid (fixed_calls wr.drew)
      have KS := hid (show ∀ w1, Below wr.drew.heap.size wr.drew w1 → w1.cell? ⟨mb, 0, none⟩ = some (.slice av cnt cp) from fun w1 b => (cells_at (below_keeps (w := wr.drew) b PLr.out.blk)).1)
      have PA := hid (show ∀ w1, Below wr.drew.heap.size wr.drew w1 → Calls Try.prog 15 #[ptr B] w1 fun e w' => ∃ a, e = .returned (.slice a cnt cnt) ∧ AllRow w1 cnt f a w' ∧ Below wr.drew.heap.size wr.drew w' from fun w1 b => (all_n ((PLr.out.rn.below (Below.refl _ _).drew).below b)).mono (fun e w' ⟨a, he, ha⟩ => ⟨a, he, ha, b.trans (ha.below.mono b.size)⟩))
      have PS := hid (show ∀ w1 a1 w2, AllRow w1 cnt f a1 w2 → Below wr.drew.heap.size wr.drew w2 → Calls Try.prog 14 #[.slice a1 cnt cnt, .slice av cnt cp] w2 fun e w' => e = .returned (.bool true) ∧ ∃ d, w' = w2.drewN d from fun w1 a1 w2 h b =>
        same_yes (all_sk h (by omega)) ((PLr.out.sk.below (Below.refl _ _).drew).below b) (by omega) (fun _ _ => rfl))
      have FIN := hid (show ∀ w1, Below wr.drew.heap.size wr.drew w1 → Below w.heap.size w w1 from fun w1 b => PLr.out.bel.drew.trans (b.mono PLr.out.bel.size))
      clear PLr hmlt m1 m2 HOS PL
      go_region_held3 (fun w' => w'.cell? ⟨mb, 0, none⟩ = some (.slice av cnt cp)) (first | exact N1.out | exact N2.out | exact N3.out | go_keep)
        (first | (go_at_call 9; refine P.out.mono ?_; rintro e w1 ⟨rfl, b1⟩; have N1 := hid (KS.out w1 b1); have B1 := hid b1; clear b1) | (go_at_call 15; refine (PA.out w1 B1.out).mono ?_; rintro e w2 ⟨a1, rfl, h2, b2⟩; have N2 := hid (KS.out w2 b2); have B2 := hid b2; have H2 := hid h2; clear b2 h2) | (go_at_call 14; refine (PS.out w1 a1 w2 H2.out B2.out).mono ?_; rintro e w3 ⟨rfl, d3, rfl⟩; have b3 := below_drewN B2.out d3; have N3 := hid (KS.out _ b3); have B3 := hid b3; clear b3))
      go_wp2_with fail
      go_ret
      exact ⟨rfl, FIN.out _ B3.out⟩
theorem ringOwn_calls (room : Int) (hwf : (Lit.int .u8 room).wf = true) (a : Option Addr) (n cap : Nat) (L H C : Nat → Int) (x : Int) (w : World) (OS : Tri w .u8 .i32 .i64 a n cap L H C) :
    Calls Try.prog 7 #[.int .u8 room, .slice a n cap, .int .i32 x] w fun e w' => e = .returned (.bool true) ∧ Below w.heap.size w w' := by
  by_cases hn : 100 < n
  · exact ringOwn_long room a n cap hn x w
  · have h : 0 ≤ room ∧ room ≤ 255 := by
      simp [Lit.wf, IntKind.min, IntKind.max, IntKind.signed, IntKind.bits] at hwf
      simpa using hwf
    obtain ⟨r, rfl⟩ : ∃ r : Nat, room = r := ⟨room.toNat, by omega⟩
    exact ringOwn_short r (by omega) a n cap L H C (by omega) x w OS
end Go.Proofs.Ytgjeiikjpacocaa
