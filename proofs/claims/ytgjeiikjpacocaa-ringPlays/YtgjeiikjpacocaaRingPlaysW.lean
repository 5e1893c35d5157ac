/-
  The walk of the law RingPlays.
-/
import Derived.Test.YtgjeiikjpacocaaRgP
import Derived.Test.YtgjeiikjpacocaaTri
namespace Go.Proofs.Ytgjeiikjpacocaa
open Go.RowKit RI
open Rr (row SkI cells_at kept_block alloc_block two_new)
set_option linter.unusedVariables false

theorem all_sk {w w1 : World} {cnt : Nat} {f : Nat → Int} {a : Option Addr} (h : AllRow w cnt f a w1) (hn : cnt ≤ 1048576) : Sk w1 .i32 (fun _ => False) a cnt cnt f := by
  by_cases h0 : 0 < cnt
  · obtain ⟨rfl, hb⟩ := h.at' h0
    exact Sk.ofBlock hb (by unfold maxLen; omega) (fun e => e)
  · obtain rfl : cnt = 0 := by omega
    obtain rfl := h.nil rfl
    exact Sk.nilS w1 .i32 _ f

set_option maxRecDepth 100000 in
set_option maxHeartbeats 1600000 in
theorem ringPlays_out (room : Int) (h : room < 0 ∨ 1048576 < room) (a : Option Addr) (n cap : Nat) (w : World) :
    Calls Try.prog 3 #[.int .i64 room, .slice a n cap] w fun e w' => e = .returned (.bool true) ∧ Below w.heap.size w w' := by
  have P := hid (new_none room h w)
  by_cases h1 : room < 0
  · clear h
    go_enter Try.func3, Try.ntmps3
    go_wp2_with fail
    refine P.out.mono ?_
    rintro e w ⟨rfl, rfl⟩
    go_wp2_with fail
    refine (fixed_calls _).mono ?_
    rintro e w1 ⟨rfl, b1⟩
    have B1 := hid b1
    clear b1
    go_wp2_with fail
    go_ret
    exact ⟨rfl, B1.out⟩
  · have h2 : 1048576 < room := by omega
    clear h
    go_enter Try.func3, Try.ntmps3
    go_wp2_with fail
    refine P.out.mono ?_
    rintro e w ⟨rfl, rfl⟩
    go_wp2_with fail
    refine (fixed_calls _).mono ?_
    rintro e w1 ⟨rfl, b1⟩
    have B1 := hid b1
    clear b1
    go_wp2_with fail
    go_ret
    exact ⟨rfl, B1.out⟩

set_option maxRecDepth 100000 in
set_option maxHeartbeats 1600000 in
theorem ringPlays_long (room : Nat) (h : room ≤ 1048576) (a : Option Addr) (n cap : Nat) (hn : 200 < n) (w : World) :
    Calls Try.prog 3 #[.int .i64 room, .slice a n cap] w fun e w' => e = .returned (.bool true) ∧ Below w.heap.size w w' := by
  have P := hid (new_x w room h (fun _ => 0))
  have t1 : ¬ (room : Int) < 0 := by omega
  have t2 : ¬ (1048576 : Int) < room := by omega
  have t3 : (200 : Int) < n := by omega
  go_enter Try.func3, Try.ntmps3
  go_wp2_with fail
  refine P.out.mono ?_
  rintro e w1 ⟨B, rfl, r1⟩
  have R1 := hid r1
  clear r1 P
  go_wp2_with fail
  refine (room_n R1.out.rn).mono ?_
  rintro e w1 ⟨rfl, rfl⟩
  go_wp2_with fail
  refine (room_n R1.out.rn).mono ?_
  rintro e w1 ⟨rfl, rfl⟩
  go_wp2_with fail
  refine (fixed_calls _).mono ?_
  rintro e w2 ⟨rfl, b2⟩
  have B2 := hid (R1.out.bel.trans (b2.mono R1.out.bel.size))
  clear b2
  go_wp2_with fail
  go_ret
  exact ⟨rfl, B2.out⟩

set_option maxRecDepth 100000 in
set_option maxHeartbeats 3200000 in
theorem ringPlays_short (room : Nat) (h : room ≤ 1048576) (a : Option Addr) (n cap : Nat) (L H C : Nat → Int) (hn : n ≤ 200) (w : World) (OS : Tri w .u8 .i32 .i64 a n cap L H C) :
    Calls Try.prog 3 #[.int .i64 room, .slice a n cap] w fun e w' => e = .returned (.bool true) ∧ Below w.heap.size w w' := by
  have P := hid (new_x w room h (fun _ => 0))
  have t1 : ¬ (room : Int) < 0 := by omega
  have t2 : ¬ (1048576 : Int) < room := by omega
  have t3 : ¬ (200 : Int) < n := by omega
  have HOS := hid OS
  clear OS
  go_enter Try.func3, Try.ntmps3
  go_wp2_with fail
  refine P.out.mono ?_
  rintro e w1 ⟨B, rfl, r1⟩
  have R1 := hid r1
  clear r1 P
  go_wp2_with fail
  refine (room_n R1.out.rn).mono ?_
  rintro e w1 ⟨rfl, rfl⟩
  go_wp2_with fail
  have PL := hid (show Pl w (w1.alloc (.cells #[.slice none 0 0, .int .i64 0, .int .i64 room] 29)) (fun _ => False) B w1.heap.size none room 0 0 none 0 (fun _ => 0) from by
    have b := (Below.refl _ w1).alloc (Nat.le_refl _) (.cells #[.slice none 0 0, .int .i64 0, .int .i64 room] 29)
    refine ⟨R1.out.rn.below b, Sk.nilS _ _ _ _, heap_alloc_new w1 _, R1.out.bel.trans (b.mono R1.out.bel.size), fun k hk => ?_, fun e => ?_, fun _ _ e => e, fun _ e => e.elim⟩
    · rcases hk with hk | rfl
      · exact R1.out.since k hk
      · exact R1.out.bel.size
    · exact absurd (R1.out.rn.ltOwn e) (Nat.lt_irrefl _))
  clear t1 t2 t3 R1
  generalize w1.alloc (.cells #[.slice none 0 0, .int .i64 0, .int .i64 room] 29) = w2 at *
  generalize w1.heap.size = mb at *
  go_loopg [52] n (fun k iv wr => ∃ j : Nat, k = n - j ∧ j ≤ n ∧ iv = .int .i64 j ∧ Hid (∃ o fr cnt av cp f, fr ≤ j ∧ Pl w wr (fun _ => False) B mb o room fr cnt av cp f))
  case atStart => exact ⟨0, rfl, by omega, rfl, hid ⟨_, 0, _, _, _, _, by omega, PL.out⟩⟩
  case round =>
    obtain ⟨j, rfl, hj, rfl, ST⟩ := hrel
    obtain ⟨o, fr, cnt, av, cp, f, hfj, pl⟩ := ST.out
    have PLr := hid pl
    clear pl ST
    have hcle := PLr.out.rn.cle
    obtain ⟨m0, m1, m2, _, _, _⟩ := cells_at PLr.out.blk
    have hmlt := PLr.out.ltM
    by_cases hlt : j < n
    · have h1 : (j : Int) < n := by omega
      have h0 : (0 : Int) ≤ j := by omega
      have e2 : IntKind.i64.wrap ((j : Int) + 1) = j + 1 := i64_in (by omega) (by omega)
      obtain ⟨b, off, rfl, hbl, hc⟩ := HOS.out.at' (by omega)
      obtain ⟨q0, q1, q2⟩ := hc j hlt
      rw [← PLr.out.bel.cell (p := ⟨b, off + j * 3, none⟩) hbl] at q0
      rw [← PLr.out.bel.cell (p := ⟨b, off + j * 3 + 1, none⟩) hbl] at q1
      rw [← PLr.out.bel.cell (p := ⟨b, off + j * 3 + 2, none⟩) hbl] at q2
      clear hc
      go_wp2_with fail
      have b1 := (Below.refl _ wr).alloc (Nat.le_refl _) (.cells #[.int .u8 (L j), .int .i32 (H j), .int .i64 (C j)] 31)
      have PL1 := hid (PLr.out.below b1)
      clear b1 m0 m1 m2 q0 q1 q2 hmlt
      generalize wr.alloc (.cells #[.int .u8 (L j), .int .i32 (H j), .int .i64 (C j)] 31) = w3 at *
      refine (PL1.out.does (by omega) (L j) (H j) (C j)).mono ?_
      rintro e w4 ⟨v, rfl, D⟩
      obtain ⟨o', fr', cnt', a', cap', f', rfl, hfr', hblk, hsz, hbel, nx⟩ := PL1.out.next D
      have NX := hid ((nx w4 (Below.refl _ _)).below ((Below.refl _ _).alloc (Nat.le_refl _) (.cells #[.slice a' cnt' cap', .int .i64 fr', .int .i64 room] 29)))
      obtain ⟨m0, m1, m2, f0, f1, f2⟩ := cells_at hblk
      have hmlt : mb < w4.heap.size := (Array.getElem?_eq_some_iff.1 hblk).1
      clear D nx hblk hbel PL1 PLr
      go_wp2_with fail
      clear m0 m1 m2 f0 f1 f2 hmlt
      generalize (((w4.setCell ⟨mb, 0, none⟩ (.slice a' cnt' cap')).setCell ⟨mb, 1, none⟩ (.int .i64 fr')).setCell ⟨mb, 2, none⟩ (.int .i64 room)).alloc (.cells #[.slice a' cnt' cap', .int .i64 fr', .int .i64 room] 29) = w5 at *
      obtain ⟨m0, m1, m2, _, _, _⟩ := cells_at NX.out.pl.blk
      have QL := hid (fun q => len_n (NX.out.pl.rn.below (below_drewN (Below.refl _ _) q)))
      have QF := hid (fun q => from_n (NX.out.pl.rn.below (below_drewN (Below.refl _ _) q)))
      go_quiet (first | exact Calls.quiet_of_same (QL.out _) | exact Calls.quiet_of_same (QF.out _))
      go_wp2_with fail
      go_roundg (n - (j + 1))
      case measure => omega
      case rel => exact ⟨j + 1, rfl, by omega, by go_num, hid ⟨o', fr', cnt', a', cap', f', by omega, NX.out.pl.below (below_drewN (Below.refl _ _) nq)⟩⟩
    · have h1 : ¬ (j : Int) < n := by omega
      go_wp2_with fail
      have P := hid (fixed_calls wr.drew)
      have KS := hid (show ∀ w1, Below wr.drew.heap.size wr.drew w1 → w1.cell? ⟨mb, 0, none⟩ = some (.slice av cnt cp) from fun w1 b => (cells_at (below_keeps (w := wr.drew) b PLr.out.blk)).1)
      have PA := hid (show ∀ w1, Below wr.drew.heap.size wr.drew w1 → Calls Try.prog 15 #[ptr B] w1 fun e w' => ∃ a, e = .returned (.slice a cnt cnt) ∧ AllRow w1 cnt f a w' ∧ Below wr.drew.heap.size wr.drew w' from fun w1 b => (all_n ((PLr.out.rn.below (Below.refl _ _).drew).below b)).mono (fun e w' ⟨a, he, ha⟩ => ⟨a, he, ha, b.trans (ha.below.mono b.size)⟩))
      have PS := hid (show ∀ w1 a1 w2, AllRow w1 cnt f a1 w2 → Below wr.drew.heap.size wr.drew w2 → Calls Try.prog 14 #[.slice a1 cnt cnt, .slice av cnt cp] w2 fun e w' => e = .returned (.bool true) ∧ ∃ d, w' = w2.drewN d from fun w1 a1 w2 h b =>
        same_yes (all_sk h (by omega)) ((PLr.out.sk.below (Below.refl _ _).drew).below b) (by omega) (fun _ _ => rfl))
      have FIN := hid (show ∀ w1, Below wr.drew.heap.size wr.drew w1 → Below w.heap.size w w1 from fun w1 b => PLr.out.bel.drew.trans (b.mono PLr.out.bel.size))
      clear PLr hmlt m1 m2 HOS PL
      go_region_held3 (fun w' => w'.cell? ⟨mb, 0, none⟩ = some (.slice av cnt cp)) (first | exact N1.out | exact N2.out | exact N3.out | go_keep)
        (first | (go_at_call 9; refine P.out.mono ?_; rintro e w1 ⟨rfl, b1⟩; have N1 := hid (KS.out w1 b1); have B1 := hid b1; clear b1) | (go_at_call 15; refine (PA.out w1 B1.out).mono ?_; rintro e w2 ⟨a1, rfl, h2, b2⟩; have N2 := hid (KS.out w2 b2); have B2 := hid b2; have H2 := hid h2; clear b2 h2) | (go_at_call 14; refine (PS.out w1 a1 w2 H2.out B2.out).mono ?_; rintro e w3 ⟨rfl, d3, rfl⟩; have b3 := below_drewN B2.out d3; have N3 := hid (KS.out _ b3); have B3 := hid b3; clear b3))
      go_wp2_with fail
      go_ret
      exact ⟨rfl, FIN.out _ B3.out⟩
theorem ringPlays_calls (room : Int) (a : Option Addr) (n cap : Nat) (L H C : Nat → Int) (w : World) (OS : Tri w .u8 .i32 .i64 a n cap L H C) :
    Calls Try.prog 3 #[.int .i64 room, .slice a n cap] w fun e w' => e = .returned (.bool true) ∧ Below w.heap.size w w' := by
  by_cases h : room < 0 ∨ 1048576 < room
  · exact ringPlays_out room h a n cap w
  · obtain ⟨r, rfl⟩ : ∃ r : Nat, room = r := ⟨room.toNat, by omega⟩
    by_cases hn : 200 < n
    · exact ringPlays_long r (by omega) a n cap hn w
    · exact ringPlays_short r (by omega) a n cap L H C (by omega) w OS
end Go.Proofs.Ytgjeiikjpacocaa
