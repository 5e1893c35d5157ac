/-
  The walk of the law RingCopies.
-/
import Derived.Test.YtgjeiikjpacocaaRgT
import Derived.Test.YtgjeiikjpacocaaRingPlaysW
namespace Go.Proofs.Ytgjeiikjpacocaa
open Go.RowKit RI
open Rr (row SkI cells_at kept_block alloc_block two_new)
set_option linter.unusedVariables false

set_option maxRecDepth 100000 in
set_option maxHeartbeats 1600000 in
theorem ringCopies_long (room : Int) (a1 : Option Addr) (n1 c1 : Nat) (a2 : Option Addr) (n2 c2 : Nat) (a3 : Option Addr) (n3 c3 : Nat) (h : 100 < n1 ∨ 100 < n2 ∨ 100 < n3) (w : World) :
    Calls Try.prog 4 #[.int .u16 room, .slice a1 n1 c1, .slice a2 n2 c2, .slice a3 n3 c3] w fun e w' => e = .returned (.bool true) ∧ Below w.heap.size w w' := by
  by_cases h1 : 100 < n1
  · have t1 : (100 : Int) < n1 := by omega
    clear h
    go_enter Try.func4, Try.ntmps4
    go_wp2_with fail
    refine (fixed_calls _).mono ?_
    rintro e w2 ⟨rfl, b2⟩
    go_wp2_with fail
    go_ret
    exact ⟨rfl, b2⟩
  · have t1 : ¬ (100 : Int) < n1 := by omega
    by_cases h2 : 100 < n2
    · have t2 : (100 : Int) < n2 := by omega
      clear h
      go_enter Try.func4, Try.ntmps4
      go_wp2_with fail
      refine (fixed_calls _).mono ?_
      rintro e w2 ⟨rfl, b2⟩
      go_wp2_with fail
      go_ret
      exact ⟨rfl, b2⟩
    · have t2 : ¬ (100 : Int) < n2 := by omega
      have t3 : (100 : Int) < n3 := by omega
      clear h
      go_enter Try.func4, Try.ntmps4
      go_wp2_with fail
      refine (fixed_calls _).mono ?_
      rintro e w2 ⟨rfl, b2⟩
      go_wp2_with fail
      go_ret
      exact ⟨rfl, b2⟩

set_option maxRecDepth 100000 in
set_option maxHeartbeats 8000000 in
theorem ringCopies_short (room : Nat) (h : room ≤ 65535) (a : Option Addr) (n cap : Nat) (L H C : Nat → Int) (a2 : Option Addr) (n2 c2 : Nat) (L2 H2 C2 : Nat → Int) (a3 : Option Addr) (n3 c3 : Nat) (L3 H3 C3 : Nat → Int) (hn : n ≤ 100) (hn2 : n2 ≤ 100) (hn3 : n3 ≤ 100) (w : World)
    (OS : Tri w .u8 .i32 .i64 a n cap L H C) (OS2 : Tri w .u8 .i32 .i64 a2 n2 c2 L2 H2 C2) (OS3 : Tri w .u8 .i32 .i64 a3 n3 c3 L3 H3 C3) :
    Calls Try.prog 4 #[.int .u16 room, .slice a n cap, .slice a2 n2 c2, .slice a3 n3 c3] w fun e w' => e = .returned (.bool true) ∧ Below w.heap.size w w' := by
  have P := hid (new_x w room (by omega) (fun _ => 0))
  have hu8 : IntKind.i64.wrap (room : Int) = room := i64_in (by omega) (by omega)
  have t1 : ¬ (100 : Int) < n := by omega
  have t2 : ¬ (100 : Int) < n2 := by omega
  have t3 : ¬ (100 : Int) < n3 := by omega
  have HOS := hid OS
  have HOS2 := hid OS2
  have HOS3 := hid OS3
  clear OS OS2 OS3
  go_enter Try.func4, Try.ntmps4
  go_wp2_with fail
  refine P.out.mono ?_
  rintro e w1 ⟨B, rfl, r1⟩
  have R1 := hid r1
  clear r1 P
  go_wp2_with fail
  have PL := hid (show Pl w (w1.alloc (.cells #[.slice none 0 0, .int .i64 0, .int .i64 room] 29)) (fun _ => False) B w1.heap.size none room 0 0 none 0 (fun _ => 0) from by
    have b := (Below.refl _ w1).alloc (Nat.le_refl _) (.cells #[.slice none 0 0, .int .i64 0, .int .i64 room] 29)
    refine ⟨R1.out.rn.below b, Sk.nilS _ _ _ _, heap_alloc_new w1 _, R1.out.bel.trans (b.mono R1.out.bel.size), fun k hk => ?_, fun e => ?_, fun _ _ e => e, fun _ e => e.elim⟩
    · rcases hk with hk | rfl
      · exact R1.out.since k hk
      · exact R1.out.bel.size
    · exact absurd (R1.out.rn.ltOwn e) (Nat.lt_irrefl _))
  clear t1 t2 t3 R1
  generalize w1.alloc (.cells #[.slice none 0 0, .int .i64 0, .int .i64 room] 29) = w2 at *
  generalize w1.heap.size = mb at *
  go_loopg [11, 45] n (fun k v iv wr => ∃ j : Nat, k = n - j ∧ j ≤ n ∧ v = .bool true ∧ iv = .int .i64 j ∧ Hid (∃ o fr cnt av cp f, fr ≤ j ∧ Pl w wr (fun _ => False) B mb o room fr cnt av cp f))
  case atStart => exact ⟨0, rfl, by omega, rfl, rfl, hid ⟨_, 0, _, _, _, _, by omega, PL.out⟩⟩
  case round =>
    obtain ⟨j, rfl, hj, rfl, rfl, ST⟩ := hrel
    obtain ⟨o, fr, cnt, av, cp, f, hfj, pl⟩ := ST.out
    have PLr := hid pl
    clear pl ST
    have hcle := PLr.out.rn.cle
    obtain ⟨m0, m1, m2, _, _, _⟩ := cells_at PLr.out.blk
    have hmlt := PLr.out.ltM
    by_cases hlt : j < n
    · have h1 : (j : Int) < n := by omega
      have h0 : (0 : Int) ≤ j := by omega
      have e2 : IntKind.i64.wrap ((j : Int) + 1) = j + 1 := i64_in (by omega) (by omega)
      obtain ⟨b, off, rfl, hbl, hc⟩ := HOS.out.at' (by omega)
      obtain ⟨q0, q1, q2⟩ := hc j hlt
      rw [← PLr.out.bel.cell (p := ⟨b, off + j * 3, none⟩) hbl] at q0
      rw [← PLr.out.bel.cell (p := ⟨b, off + j * 3 + 1, none⟩) hbl] at q1
      rw [← PLr.out.bel.cell (p := ⟨b, off + j * 3 + 2, none⟩) hbl] at q2
      clear hc
      go_wp2_with fail
      have b1 := (Below.refl _ wr).alloc (Nat.le_refl _) (.cells #[.int .u8 (L j), .int .i32 (H j), .int .i64 (C j)] 31)
      have PL1 := hid (PLr.out.below b1)
      clear b1 m0 m1 m2 q0 q1 q2 hmlt
      generalize wr.alloc (.cells #[.int .u8 (L j), .int .i32 (H j), .int .i64 (C j)] 31) = w3 at *
      refine (PL1.out.does (by omega) (L j) (H j) (C j)).mono ?_
      rintro e w4 ⟨v, rfl, D⟩
      obtain ⟨o', fr', cnt', a', cap', f', rfl, hfr', hblk, hsz, hbel, nx⟩ := PL1.out.next D
      have NX := hid ((nx w4 (Below.refl _ _)).below ((Below.refl _ _).alloc (Nat.le_refl _) (.cells #[.slice a' cnt' cap', .int .i64 fr', .int .i64 room] 29)))
      obtain ⟨m0, m1, m2, f0, f1, f2⟩ := cells_at hblk
      have hmlt : mb < w4.heap.size := (Array.getElem?_eq_some_iff.1 hblk).1
      clear D nx hblk hbel PL1 PLr
      go_wp2_with fail
      clear m0 m1 m2 f0 f1 f2 hmlt
      generalize (((w4.setCell ⟨mb, 0, none⟩ (.slice a' cnt' cap')).setCell ⟨mb, 1, none⟩ (.int .i64 fr')).setCell ⟨mb, 2, none⟩ (.int .i64 room)).alloc (.cells #[.slice a' cnt' cap', .int .i64 fr', .int .i64 room] 29) = w5 at *
      go_roundg (n - (j + 1))
      case measure => omega
      case rel => exact ⟨j + 1, rfl, by omega, rfl, by go_num, hid ⟨o', fr', cnt', a', cap', f', by omega, NX.out.pl⟩⟩
    · have h1 : ¬ (j : Int) < n := by omega
      go_wp2_with fail
      have CP := hid (show ∀ w1, Below wr.heap.size wr w1 → Calls Try.prog 16 #[ptr B] w1 fun e w' => ∃ B' o', e = .returned (ptr B') ∧ RnI w' B' o' room fr cnt f ∧ Below w1.heap.size w1 w' ∧ (∀ k, own B' o' k → w1.heap.size ≤ k) ∧ Below wr.heap.size wr w' from fun w1 b => (copy_n (PLr.out.rn.below b)).mono (fun e w' ⟨B', o', he, r, b', s⟩ => ⟨B', o', he, r, b', s, b.trans (b'.mono b.size)⟩))
      have KS := hid (show ∀ w1, Below wr.heap.size wr w1 → w1.cell? ⟨mb, 0, none⟩ = some (.slice av cnt cp) ∧ w1.cell? ⟨mb, 1, none⟩ = some (.int .i64 fr) ∧ w1.cell? ⟨mb, 2, none⟩ = some (.int .i64 room) from fun w1 b => by
        obtain ⟨k1, k2, k3, _⟩ := cells_at (below_keeps b PLr.out.blk)
        exact ⟨k1, k2, k3⟩)
      have hne : mb ≠ wr.heap.size := by omega
      go_region_held3 (fun w' => w'.cell? ⟨mb, 0, none⟩ = some (.slice av cnt cp) ∧ w'.cell? ⟨mb, 1, none⟩ = some (.int .i64 fr) ∧ w'.cell? ⟨mb, 2, none⟩ = some (.int .i64 room))
        (first | exact NK.out | exact KS.out _ (b3w.alloc b3w.size _) | exact ⟨(three_keep _ hne).trans NK.out.1, (three_keep _ hne).trans NK.out.2.1, (three_keep _ hne).trans NK.out.2.2⟩ | go_keep)
        (first | (go_at_call 16; refine (CP.out _ (by first | exact (Below.refl _ _).drew | exact ((Below.refl _ _).alloc (Nat.le_refl _) _).drew)).mono ?_; rintro e w3 ⟨B2, o2, rfl, r3, b3, s3, b3w⟩; have NK := hid (KS.out w3 b3w); (try (obtain ⟨q0, q1, q2, f0, f1, f2⟩ := cells_at (below_keeps b3 (heap_alloc_new wr (.cells #[.slice none 0 0, .int .i64 0, .int .i64 0] 29)))))))
      obtain ⟨p1, p2⟩ := PLr.out.copied (M := fun _ => False) (kb := w3.heap.size) b3w r3 (fun k hk => s3 k hk) (Mut.ofBelow ((Below.refl _ w3).alloc (Nat.le_refl _) (.cells #[.slice av cnt cp, .int .i64 fr, .int .i64 room] 29)) _) (fun k e => e.elim) b3w.size (fun e => absurd (r3.ltOwn e) (Nat.lt_irrefl _)) (heap_alloc_new w3 _)
      have TW0 := hid (show Two w _ B mb B2 w3.heap.size room (100 + 2 * 0) from ⟨o, fr, cnt, av, cp, f, o2, fr, cnt, av, cp, f, by omega, by omega, p1, p2⟩)
      clear p1 p2 r3 b3 s3 b3w NK CP KS PLr hcle hmlt hne m0 m1 m2
      generalize w3.alloc (.cells #[.slice av cnt cp, .int .i64 fr, .int .i64 room] 29) = w4 at *
      generalize w3.heap.size = kb at *
      rotate_left
      have hb2 := below_keeps b3 (heap_alloc_new wr (.cells #[.slice none 0 0, .int .i64 0, .int .i64 0] 29))
      have hown : ∀ k, own B2 o2 k → wr.heap.size + 1 ≤ k := fun k hk => by have h1 := s3 k hk; have h2 : (wr.alloc (.cells #[.slice none 0 0, .int .i64 0, .int .i64 0] 29)).heap.size ≤ k := h1; simp at h2; omega
      obtain ⟨p1, p2⟩ := PLr.out.copied (M := fun k => k = wr.heap.size) (kb := wr.heap.size) b3w r3 (fun k hk => by have := hown k hk; omega) (three_mut w3 wr.heap.size (.slice av cnt cp) (.int .i64 fr) (.int .i64 room)) (fun k e => e) (Nat.le_refl _) (fun e => by have := hown _ e; omega) (three_blk hb2)
      have TW0 := hid (show Two w _ B mb B2 wr.heap.size room (100 + 2 * 0) from ⟨o, fr, cnt, av, cp, f, o2, fr, cnt, av, cp, f, by omega, by omega, p1, p2⟩)
      clear p1 p2 r3 b3 s3 b3w NK CP KS PLr hcle hmlt hne m0 m1 m2 hb2 hown q0 q1 q2 f0 f1 f2
      generalize ((w3.setCell ⟨wr.heap.size, 0, none⟩ (.slice av cnt cp)).setCell ⟨wr.heap.size, 1, none⟩ (.int .i64 fr)).setCell ⟨wr.heap.size, 2, none⟩ (.int .i64 room) = w4 at *
      generalize wr.heap.size = kb at *
      rotate_left
      all_goals
        clear h1 PL HOS
        go_wp2_with fail
        go_loopg [11, 18] (max n2 n3) (fun k v iv wr => ∃ i : Nat, k = max n2 n3 - i ∧ i ≤ max n2 n3 ∧ v = .bool true ∧ iv = .int .i64 i ∧ Hid (Two w wr B mb B2 kb room (100 + 2 * i)))
        case atStart => exact ⟨0, rfl, by omega, rfl, rfl, TW0⟩
        case round =>
          obtain ⟨i, rfl, hi, rfl, rfl, TW⟩ := hrel
          clear TW0
          have e2 : IntKind.i64.wrap ((i : Int) + 1) = i + 1 := i64_in (by omega) (by omega)
          have h0 : (0 : Int) ≤ i := by omega
          rcases Nat.lt_or_ge i n2 with hA | hA
          · have kA : (i : Int) < n2 := by omega
            rcases Nat.lt_or_ge i n3 with hB | hB
            · have kB : (i : Int) < n3 := by omega
              obtain ⟨o, fr, cnt, av, cp, f, o2, fr2, cnt2, av2, cp2, f2, hl1, hl2, pa, pb⟩ := TW.out
              have PA := hid pa
              have PB := hid pb
              clear pa pb TW
              obtain ⟨b, off, rfl, hbl, hc⟩ := HOS2.out.at' (by omega)
              have OPC := hid (hc i (by omega))
              clear hc
              have hmlt := PA.out.ltM
              have hwl : w.heap.size ≤ wr.heap.size := PA.out.bel.size
              have HOL := hid (show ∀ k, own B o k → w.heap.size ≤ k ∧ k < wr.heap.size from fun k hk => ⟨PA.out.since k (.inl hk), PA.out.rn.ltOwn hk⟩)
              have DA := hid (show ∀ w1, Below wr.heap.size wr w1 → Calls Try.prog 11 #[ptr B, row av cnt cp fr room, opv (L2 i) (H2 i) (C2 i)] w1 fun e w' => ∃ a' cnt' cap' fr', e = .returned (.tuple #[row a' cnt' cap' (fr' : Nat) room, .bool true]) ∧ Dn w wr w1 B mb B2 kb room (100 + 2 * i) o fr cnt av cp a' cnt' cap' fr' w' ∧ Mut (own B o) wr w' from fun w1 bb => (two_does PA.out PB.out hl1 hl2 (by omega) (L2 i) (H2 i) (C2 i) bb).mono (fun e w' ⟨a', cnt', cap', fr', he, dn⟩ => ⟨a', cnt', cap', fr', he, dn, (Mut.ofBelow bb _).trans dn.chg (fun _ _ e => e)⟩))
              have KS := hid (show ∀ w2, Mut (own B o) wr w2 → w2.cell? ⟨mb, 0, none⟩ = some (.slice av cnt cp) ∧ w2.cell? ⟨mb, 1, none⟩ = some (.int .i64 fr) ∧ w2.cell? ⟨mb, 2, none⟩ = some (.int .i64 room) ∧ w2.cell? ⟨b, off + i * 3, none⟩ = some (.int .u8 (L2 i)) ∧ w2.cell? ⟨b, off + i * 3 + 1, none⟩ = some (.int .i32 (H2 i)) ∧ w2.cell? ⟨b, off + i * 3 + 2, none⟩ = some (.int .i64 (C2 i)) from fun w2 m => by
                obtain ⟨k1, k2, k3, _⟩ := cells_at (m.keeps PA.out.blk PA.out.apart)
                have nb : ∀ jj, w2.cell? ⟨b, jj, none⟩ = w.cell? ⟨b, jj, none⟩ := fun jj => (m.cell (by omega) (fun e => by have := (HOL.out _ e).1; omega)).trans (PA.out.bel.cell (p := ⟨b, jj, none⟩) hbl)
                exact ⟨k1, k2, k3, (nb _).trans OPC.out.1, (nb _).trans OPC.out.2.1, (nb _).trans OPC.out.2.2⟩)
              obtain ⟨m0, m1, m2, q0, q1, q2⟩ := KS.out wr (Mut.refl _ _)
              have hne : mb ≠ wr.heap.size := by omega
              go_wp2_with fail
              go_region_held3 (fun w' => w'.cell? ⟨mb, 0, none⟩ = some (.slice av cnt cp) ∧ w'.cell? ⟨mb, 1, none⟩ = some (.int .i64 fr) ∧ w'.cell? ⟨mb, 2, none⟩ = some (.int .i64 room) ∧ w'.cell? ⟨b, off + i * 3, none⟩ = some (.int .u8 (L2 i)) ∧ w'.cell? ⟨b, off + i * 3 + 1, none⟩ = some (.int .i32 (H2 i)) ∧ w'.cell? ⟨b, off + i * 3 + 2, none⟩ = some (.int .i64 (C2 i)))
                (first | exact NK.out | exact KS.out _ (M3.out.trans (Mut.ofBelow ((Below.refl _ _).alloc (Nat.le_refl _) _) _) (fun _ _ e => e)) | exact KS.out _ (M3.out.trans (three_mut _ _ _ _ _) (fun k hk e => by omega)) | go_keep)
                (first | (go_at_call 11; refine (DA.out _ (by first | exact (Below.refl _ _).drew | exact ((Below.refl _ _).alloc (Nat.le_refl _) _).drew)).mono ?_; rintro e w3 ⟨a', cnt', cap', fr', rfl, dn, m3⟩; have M3 := hid m3; have NK := hid (KS.out w3 m3); have DN := hid dn; (try (obtain ⟨z0, z1, z2, zf0, zf1, zf2⟩ := cells_at (dn.chg.keeps (heap_alloc_new wr (.cells #[.slice none 0 0, .int .i64 0, .int .i64 0] 29)) (fun e => by have := (HOL.out _ e).2; omega)))); clear dn m3))
              have TN := hid (DN.out.two (w3.alloc (.cells #[.slice a' cnt' cap', .int .i64 fr', .int .i64 room] 29)) (fun _ => False) (Mut.ofBelow ((Below.refl _ _).alloc (Nat.le_refl _) _) _) (fun k e => e.elim))
              have NB := hid (heap_alloc_new w3 (.cells #[.slice a' cnt' cap', .int .i64 fr', .int .i64 room] 29))
              have MB := hid (alloc_block (o' := .cells #[.slice a' cnt' cap', .int .i64 fr', .int .i64 room] 29) DN.out.blk)
              clear PA PB DA KS NK DN M3 OPC HOL m0 m1 m2 q0 q1 q2
              generalize w3.alloc (.cells #[.slice a' cnt' cap', .int .i64 fr', .int .i64 room] 29) = w4 at *
              generalize w3.heap.size = nb at *
              rotate_left
              have TN := hid (DN.out.two _ (fun k => k = wr.heap.size) (three_mut w3 wr.heap.size (.slice a' cnt' cap') (.int .i64 fr') (.int .i64 room)) (fun k e => ⟨e, by subst e; show wr.heap.size < (wr.alloc _).heap.size; simp⟩))
              have NB := hid (three_blk (t := 29) (u0 := .slice a' cnt' cap') (u1 := .int .i64 fr') (u2 := .int .i64 room) (DN.out.chg.keeps (heap_alloc_new wr (.cells #[.slice none 0 0, .int .i64 0, .int .i64 0] 29)) (fun e => by have := (HOL.out _ e).2; omega)))
              have MB := hid ((three_mut w3 wr.heap.size (.slice a' cnt' cap') (.int .i64 fr') (.int .i64 room)).keeps DN.out.blk (fun e => hne e))
              clear PA PB DA KS NK DN M3 OPC HOL m0 m1 m2 q0 q1 q2 z0 z1 z2 zf0 zf1 zf2
              generalize ((w3.setCell ⟨wr.heap.size, 0, none⟩ (.slice a' cnt' cap')).setCell ⟨wr.heap.size, 1, none⟩ (.int .i64 fr')).setCell ⟨wr.heap.size, 2, none⟩ (.int .i64 room) = w4 at *
              generalize wr.heap.size = nb at *
              rotate_left
              all_goals
                obtain ⟨x0, x1, x2, g0, g1, g2⟩ := cells_at MB.out
                obtain ⟨y0, y1, y2, _, _, _⟩ := cells_at NB.out
                go_wp2_with fail
                generalize ((w4.setCell ⟨mb, 0, none⟩ (.slice a' cnt' cap')).setCell ⟨mb, 1, none⟩ (.int .i64 fr')).setCell ⟨mb, 2, none⟩ (.int .i64 room) = w5 at *
                clear x0 x1 x2 g0 g1 g2 y0 y1 y2 MB NB hmlt hwl hne hbl hl1 hl2
              all_goals
                have TW := TN
                clear TN
                obtain ⟨o, fr, cnt, av, cp, f, o2, fr2, cnt2, av2, cp2, f2, hl1, hl2, pa, pb⟩ := TW.out.swap
                have PA := hid pa
                have PB := hid pb
                clear pa pb TW
                obtain ⟨b, off, rfl, hbl, hc⟩ := HOS3.out.at' (by omega)
                have OPC := hid (hc i (by omega))
                clear hc
                have hmlt := PA.out.ltM
                have hwl : w.heap.size ≤ w5.heap.size := PA.out.bel.size
                have HOL := hid (show ∀ k, own B2 o k → w.heap.size ≤ k ∧ k < w5.heap.size from fun k hk => ⟨PA.out.since k (.inl hk), PA.out.rn.ltOwn hk⟩)
                have DA := hid (show ∀ w1, Below w5.heap.size w5 w1 → Calls Try.prog 11 #[ptr B2, row av cnt cp fr room, opv (L3 i) (H3 i) (C3 i)] w1 fun e w' => ∃ a' cnt' cap' fr', e = .returned (.tuple #[row a' cnt' cap' (fr' : Nat) room, .bool true]) ∧ Dn w w5 w1 B2 kb B mb room (100 + 2 * i + 1) o fr cnt av cp a' cnt' cap' fr' w' ∧ Mut (own B2 o) w5 w' from fun w1 bb => (two_does PA.out PB.out hl1 hl2 (by omega) (L3 i) (H3 i) (C3 i) bb).mono (fun e w' ⟨a', cnt', cap', fr', he, dn⟩ => ⟨a', cnt', cap', fr', he, dn, (Mut.ofBelow bb _).trans dn.chg (fun _ _ e => e)⟩))
                have KS := hid (show ∀ w2, Mut (own B2 o) w5 w2 → w2.cell? ⟨kb, 0, none⟩ = some (.slice av cnt cp) ∧ w2.cell? ⟨kb, 1, none⟩ = some (.int .i64 fr) ∧ w2.cell? ⟨kb, 2, none⟩ = some (.int .i64 room) ∧ w2.cell? ⟨b, off + i * 3, none⟩ = some (.int .u8 (L3 i)) ∧ w2.cell? ⟨b, off + i * 3 + 1, none⟩ = some (.int .i32 (H3 i)) ∧ w2.cell? ⟨b, off + i * 3 + 2, none⟩ = some (.int .i64 (C3 i)) from fun w2 m => by
                  obtain ⟨k1, k2, k3, _⟩ := cells_at (m.keeps PA.out.blk PA.out.apart)
                  have nb : ∀ jj, w2.cell? ⟨b, jj, none⟩ = w.cell? ⟨b, jj, none⟩ := fun jj => (m.cell (by omega) (fun e => by have := (HOL.out _ e).1; omega)).trans (PA.out.bel.cell (p := ⟨b, jj, none⟩) hbl)
                  exact ⟨k1, k2, k3, (nb _).trans OPC.out.1, (nb _).trans OPC.out.2.1, (nb _).trans OPC.out.2.2⟩)
                obtain ⟨m0, m1, m2, q0, q1, q2⟩ := KS.out w5 (Mut.refl _ _)
                have hne : kb ≠ w5.heap.size := by omega
                go_wp2_with fail
                go_region_held3 (fun w' => w'.cell? ⟨kb, 0, none⟩ = some (.slice av cnt cp) ∧ w'.cell? ⟨kb, 1, none⟩ = some (.int .i64 fr) ∧ w'.cell? ⟨kb, 2, none⟩ = some (.int .i64 room) ∧ w'.cell? ⟨b, off + i * 3, none⟩ = some (.int .u8 (L3 i)) ∧ w'.cell? ⟨b, off + i * 3 + 1, none⟩ = some (.int .i32 (H3 i)) ∧ w'.cell? ⟨b, off + i * 3 + 2, none⟩ = some (.int .i64 (C3 i)))
                  (first | exact NK.out | exact KS.out _ (M3.out.trans (Mut.ofBelow ((Below.refl _ _).alloc (Nat.le_refl _) _) _) (fun _ _ e => e)) | exact KS.out _ (M3.out.trans (three_mut _ _ _ _ _) (fun k hk e => by omega)) | go_keep)
                  (first | (go_at_call 11; refine (DA.out _ (by first | exact (Below.refl _ _).drew | exact ((Below.refl _ _).alloc (Nat.le_refl _) _).drew)).mono ?_; rintro e w3 ⟨a', cnt', cap', fr', rfl, dn, m3⟩; have M3 := hid m3; have NK := hid (KS.out w3 m3); have DN := hid dn; (try (obtain ⟨z0, z1, z2, zf0, zf1, zf2⟩ := cells_at (dn.chg.keeps (heap_alloc_new w5 (.cells #[.slice none 0 0, .int .i64 0, .int .i64 0] 29)) (fun e => by have := (HOL.out _ e).2; omega)))); clear dn m3))
                have TN := hid (DN.out.two (w3.alloc (.cells #[.slice a' cnt' cap', .int .i64 fr', .int .i64 room] 29)) (fun _ => False) (Mut.ofBelow ((Below.refl _ _).alloc (Nat.le_refl _) _) _) (fun k e => e.elim))
                have NB := hid (heap_alloc_new w3 (.cells #[.slice a' cnt' cap', .int .i64 fr', .int .i64 room] 29))
                have MB := hid (alloc_block (o' := .cells #[.slice a' cnt' cap', .int .i64 fr', .int .i64 room] 29) DN.out.blk)
                clear PA PB DA KS NK DN M3 OPC HOL m0 m1 m2 q0 q1 q2
                generalize w3.alloc (.cells #[.slice a' cnt' cap', .int .i64 fr', .int .i64 room] 29) = w4 at *
                generalize w3.heap.size = nb at *
                rotate_left
                have TN := hid (DN.out.two _ (fun k => k = w5.heap.size) (three_mut w3 w5.heap.size (.slice a' cnt' cap') (.int .i64 fr') (.int .i64 room)) (fun k e => ⟨e, by subst e; show w5.heap.size < (w5.alloc _).heap.size; simp⟩))
                have NB := hid (three_blk (t := 29) (u0 := .slice a' cnt' cap') (u1 := .int .i64 fr') (u2 := .int .i64 room) (DN.out.chg.keeps (heap_alloc_new w5 (.cells #[.slice none 0 0, .int .i64 0, .int .i64 0] 29)) (fun e => by have := (HOL.out _ e).2; omega)))
                have MB := hid ((three_mut w3 w5.heap.size (.slice a' cnt' cap') (.int .i64 fr') (.int .i64 room)).keeps DN.out.blk (fun e => hne e))
                clear PA PB DA KS NK DN M3 OPC HOL m0 m1 m2 q0 q1 q2 z0 z1 z2 zf0 zf1 zf2
                generalize ((w3.setCell ⟨w5.heap.size, 0, none⟩ (.slice a' cnt' cap')).setCell ⟨w5.heap.size, 1, none⟩ (.int .i64 fr')).setCell ⟨w5.heap.size, 2, none⟩ (.int .i64 room) = w4 at *
                generalize w5.heap.size = nb at *
                rotate_left
                all_goals
                  obtain ⟨x0, x1, x2, g0, g1, g2⟩ := cells_at MB.out
                  obtain ⟨y0, y1, y2, _, _, _⟩ := cells_at NB.out
                  go_wp2_with fail
                  generalize ((w4.setCell ⟨kb, 0, none⟩ (.slice a' cnt' cap')).setCell ⟨kb, 1, none⟩ (.int .i64 fr')).setCell ⟨kb, 2, none⟩ (.int .i64 room) = w7 at *
                  clear x0 x1 x2 g0 g1 g2 y0 y1 y2 MB NB hmlt hwl hne hbl hl1 hl2
                all_goals
                  go_roundg (max n2 n3 - (i + 1))
                  case measure => omega
                  case rel => exact ⟨i + 1, rfl, by omega, rfl, by go_num, hid (TN.out.swap.mono (by omega))⟩
            · have kB : ¬ (i : Int) < n3 := by omega
              obtain ⟨o, fr, cnt, av, cp, f, o2, fr2, cnt2, av2, cp2, f2, hl1, hl2, pa, pb⟩ := TW.out
              have PA := hid pa
              have PB := hid pb
              clear pa pb TW
              obtain ⟨b, off, rfl, hbl, hc⟩ := HOS2.out.at' (by omega)
              have OPC := hid (hc i (by omega))
              clear hc
              have hmlt := PA.out.ltM
              have hwl : w.heap.size ≤ wr.heap.size := PA.out.bel.size
              have HOL := hid (show ∀ k, own B o k → w.heap.size ≤ k ∧ k < wr.heap.size from fun k hk => ⟨PA.out.since k (.inl hk), PA.out.rn.ltOwn hk⟩)
              have DA := hid (show ∀ w1, Below wr.heap.size wr w1 → Calls Try.prog 11 #[ptr B, row av cnt cp fr room, opv (L2 i) (H2 i) (C2 i)] w1 fun e w' => ∃ a' cnt' cap' fr', e = .returned (.tuple #[row a' cnt' cap' (fr' : Nat) room, .bool true]) ∧ Dn w wr w1 B mb B2 kb room (100 + 2 * i) o fr cnt av cp a' cnt' cap' fr' w' ∧ Mut (own B o) wr w' from fun w1 bb => (two_does PA.out PB.out hl1 hl2 (by omega) (L2 i) (H2 i) (C2 i) bb).mono (fun e w' ⟨a', cnt', cap', fr', he, dn⟩ => ⟨a', cnt', cap', fr', he, dn, (Mut.ofBelow bb _).trans dn.chg (fun _ _ e => e)⟩))
              have KS := hid (show ∀ w2, Mut (own B o) wr w2 → w2.cell? ⟨mb, 0, none⟩ = some (.slice av cnt cp) ∧ w2.cell? ⟨mb, 1, none⟩ = some (.int .i64 fr) ∧ w2.cell? ⟨mb, 2, none⟩ = some (.int .i64 room) ∧ w2.cell? ⟨b, off + i * 3, none⟩ = some (.int .u8 (L2 i)) ∧ w2.cell? ⟨b, off + i * 3 + 1, none⟩ = some (.int .i32 (H2 i)) ∧ w2.cell? ⟨b, off + i * 3 + 2, none⟩ = some (.int .i64 (C2 i)) from fun w2 m => by
                obtain ⟨k1, k2, k3, _⟩ := cells_at (m.keeps PA.out.blk PA.out.apart)
                have nb : ∀ jj, w2.cell? ⟨b, jj, none⟩ = w.cell? ⟨b, jj, none⟩ := fun jj => (m.cell (by omega) (fun e => by have := (HOL.out _ e).1; omega)).trans (PA.out.bel.cell (p := ⟨b, jj, none⟩) hbl)
                exact ⟨k1, k2, k3, (nb _).trans OPC.out.1, (nb _).trans OPC.out.2.1, (nb _).trans OPC.out.2.2⟩)
              obtain ⟨m0, m1, m2, q0, q1, q2⟩ := KS.out wr (Mut.refl _ _)
              have hne : mb ≠ wr.heap.size := by omega
              go_wp2_with fail
              go_region_held3 (fun w' => w'.cell? ⟨mb, 0, none⟩ = some (.slice av cnt cp) ∧ w'.cell? ⟨mb, 1, none⟩ = some (.int .i64 fr) ∧ w'.cell? ⟨mb, 2, none⟩ = some (.int .i64 room) ∧ w'.cell? ⟨b, off + i * 3, none⟩ = some (.int .u8 (L2 i)) ∧ w'.cell? ⟨b, off + i * 3 + 1, none⟩ = some (.int .i32 (H2 i)) ∧ w'.cell? ⟨b, off + i * 3 + 2, none⟩ = some (.int .i64 (C2 i)))
                (first | exact NK.out | exact KS.out _ (M3.out.trans (Mut.ofBelow ((Below.refl _ _).alloc (Nat.le_refl _) _) _) (fun _ _ e => e)) | exact KS.out _ (M3.out.trans (three_mut _ _ _ _ _) (fun k hk e => by omega)) | go_keep)
                (first | (go_at_call 11; refine (DA.out _ (by first | exact (Below.refl _ _).drew | exact ((Below.refl _ _).alloc (Nat.le_refl _) _).drew)).mono ?_; rintro e w3 ⟨a', cnt', cap', fr', rfl, dn, m3⟩; have M3 := hid m3; have NK := hid (KS.out w3 m3); have DN := hid dn; (try (obtain ⟨z0, z1, z2, zf0, zf1, zf2⟩ := cells_at (dn.chg.keeps (heap_alloc_new wr (.cells #[.slice none 0 0, .int .i64 0, .int .i64 0] 29)) (fun e => by have := (HOL.out _ e).2; omega)))); clear dn m3))
              have TN := hid (DN.out.two (w3.alloc (.cells #[.slice a' cnt' cap', .int .i64 fr', .int .i64 room] 29)) (fun _ => False) (Mut.ofBelow ((Below.refl _ _).alloc (Nat.le_refl _) _) _) (fun k e => e.elim))
              have NB := hid (heap_alloc_new w3 (.cells #[.slice a' cnt' cap', .int .i64 fr', .int .i64 room] 29))
              have MB := hid (alloc_block (o' := .cells #[.slice a' cnt' cap', .int .i64 fr', .int .i64 room] 29) DN.out.blk)
              clear PA PB DA KS NK DN M3 OPC HOL m0 m1 m2 q0 q1 q2
              generalize w3.alloc (.cells #[.slice a' cnt' cap', .int .i64 fr', .int .i64 room] 29) = w4 at *
              generalize w3.heap.size = nb at *
              rotate_left
              have TN := hid (DN.out.two _ (fun k => k = wr.heap.size) (three_mut w3 wr.heap.size (.slice a' cnt' cap') (.int .i64 fr') (.int .i64 room)) (fun k e => ⟨e, by subst e; show wr.heap.size < (wr.alloc _).heap.size; simp⟩))
              have NB := hid (three_blk (t := 29) (u0 := .slice a' cnt' cap') (u1 := .int .i64 fr') (u2 := .int .i64 room) (DN.out.chg.keeps (heap_alloc_new wr (.cells #[.slice none 0 0, .int .i64 0, .int .i64 0] 29)) (fun e => by have := (HOL.out _ e).2; omega)))
              have MB := hid ((three_mut w3 wr.heap.size (.slice a' cnt' cap') (.int .i64 fr') (.int .i64 room)).keeps DN.out.blk (fun e => hne e))
              clear PA PB DA KS NK DN M3 OPC HOL m0 m1 m2 q0 q1 q2 z0 z1 z2 zf0 zf1 zf2
              generalize ((w3.setCell ⟨wr.heap.size, 0, none⟩ (.slice a' cnt' cap')).setCell ⟨wr.heap.size, 1, none⟩ (.int .i64 fr')).setCell ⟨wr.heap.size, 2, none⟩ (.int .i64 room) = w4 at *
              generalize wr.heap.size = nb at *
              rotate_left
              all_goals
                obtain ⟨x0, x1, x2, g0, g1, g2⟩ := cells_at MB.out
                obtain ⟨y0, y1, y2, _, _, _⟩ := cells_at NB.out
                go_wp2_with fail
                generalize ((w4.setCell ⟨mb, 0, none⟩ (.slice a' cnt' cap')).setCell ⟨mb, 1, none⟩ (.int .i64 fr')).setCell ⟨mb, 2, none⟩ (.int .i64 room) = w5 at *
                clear x0 x1 x2 g0 g1 g2 y0 y1 y2 MB NB hmlt hwl hne hbl hl1 hl2
              all_goals
                go_roundg (max n2 n3 - (i + 1))
                case measure => omega
                case rel => exact ⟨i + 1, rfl, by omega, rfl, by go_num, hid (TN.out.mono (by omega))⟩
          · have kA : ¬ (i : Int) < n2 := by omega
            rcases Nat.lt_or_ge i n3 with hB | hB
            · have kB : (i : Int) < n3 := by omega
              have TW := hid (TW.out.mono (show 100 + 2 * i ≤ 100 + 2 * i + 1 by omega))
              obtain ⟨o, fr, cnt, av, cp, f, o2, fr2, cnt2, av2, cp2, f2, hl1, hl2, pa, pb⟩ := TW.out.swap
              have PA := hid pa
              have PB := hid pb
              clear pa pb TW
              obtain ⟨b, off, rfl, hbl, hc⟩ := HOS3.out.at' (by omega)
              have OPC := hid (hc i (by omega))
              clear hc
              have hmlt := PA.out.ltM
              have hwl : w.heap.size ≤ wr.heap.size := PA.out.bel.size
              have HOL := hid (show ∀ k, own B2 o k → w.heap.size ≤ k ∧ k < wr.heap.size from fun k hk => ⟨PA.out.since k (.inl hk), PA.out.rn.ltOwn hk⟩)
              have DA := hid (show ∀ w1, Below wr.heap.size wr w1 → Calls Try.prog 11 #[ptr B2, row av cnt cp fr room, opv (L3 i) (H3 i) (C3 i)] w1 fun e w' => ∃ a' cnt' cap' fr', e = .returned (.tuple #[row a' cnt' cap' (fr' : Nat) room, .bool true]) ∧ Dn w wr w1 B2 kb B mb room (100 + 2 * i + 1) o fr cnt av cp a' cnt' cap' fr' w' ∧ Mut (own B2 o) wr w' from fun w1 bb => (two_does PA.out PB.out hl1 hl2 (by omega) (L3 i) (H3 i) (C3 i) bb).mono (fun e w' ⟨a', cnt', cap', fr', he, dn⟩ => ⟨a', cnt', cap', fr', he, dn, (Mut.ofBelow bb _).trans dn.chg (fun _ _ e => e)⟩))
              have KS := hid (show ∀ w2, Mut (own B2 o) wr w2 → w2.cell? ⟨kb, 0, none⟩ = some (.slice av cnt cp) ∧ w2.cell? ⟨kb, 1, none⟩ = some (.int .i64 fr) ∧ w2.cell? ⟨kb, 2, none⟩ = some (.int .i64 room) ∧ w2.cell? ⟨b, off + i * 3, none⟩ = some (.int .u8 (L3 i)) ∧ w2.cell? ⟨b, off + i * 3 + 1, none⟩ = some (.int .i32 (H3 i)) ∧ w2.cell? ⟨b, off + i * 3 + 2, none⟩ = some (.int .i64 (C3 i)) from fun w2 m => by
                obtain ⟨k1, k2, k3, _⟩ := cells_at (m.keeps PA.out.blk PA.out.apart)
                have nb : ∀ jj, w2.cell? ⟨b, jj, none⟩ = w.cell? ⟨b, jj, none⟩ := fun jj => (m.cell (by omega) (fun e => by have := (HOL.out _ e).1; omega)).trans (PA.out.bel.cell (p := ⟨b, jj, none⟩) hbl)
                exact ⟨k1, k2, k3, (nb _).trans OPC.out.1, (nb _).trans OPC.out.2.1, (nb _).trans OPC.out.2.2⟩)
              obtain ⟨m0, m1, m2, q0, q1, q2⟩ := KS.out wr (Mut.refl _ _)
              have hne : kb ≠ wr.heap.size := by omega
              go_wp2_with fail
              go_region_held3 (fun w' => w'.cell? ⟨kb, 0, none⟩ = some (.slice av cnt cp) ∧ w'.cell? ⟨kb, 1, none⟩ = some (.int .i64 fr) ∧ w'.cell? ⟨kb, 2, none⟩ = some (.int .i64 room) ∧ w'.cell? ⟨b, off + i * 3, none⟩ = some (.int .u8 (L3 i)) ∧ w'.cell? ⟨b, off + i * 3 + 1, none⟩ = some (.int .i32 (H3 i)) ∧ w'.cell? ⟨b, off + i * 3 + 2, none⟩ = some (.int .i64 (C3 i)))
                (first | exact NK.out | exact KS.out _ (M3.out.trans (Mut.ofBelow ((Below.refl _ _).alloc (Nat.le_refl _) _) _) (fun _ _ e => e)) | exact KS.out _ (M3.out.trans (three_mut _ _ _ _ _) (fun k hk e => by omega)) | go_keep)
                (first | (go_at_call 11; refine (DA.out _ (by first | exact (Below.refl _ _).drew | exact ((Below.refl _ _).alloc (Nat.le_refl _) _).drew)).mono ?_; rintro e w3 ⟨a', cnt', cap', fr', rfl, dn, m3⟩; have M3 := hid m3; have NK := hid (KS.out w3 m3); have DN := hid dn; (try (obtain ⟨z0, z1, z2, zf0, zf1, zf2⟩ := cells_at (dn.chg.keeps (heap_alloc_new wr (.cells #[.slice none 0 0, .int .i64 0, .int .i64 0] 29)) (fun e => by have := (HOL.out _ e).2; omega)))); clear dn m3))
              have TN := hid (DN.out.two (w3.alloc (.cells #[.slice a' cnt' cap', .int .i64 fr', .int .i64 room] 29)) (fun _ => False) (Mut.ofBelow ((Below.refl _ _).alloc (Nat.le_refl _) _) _) (fun k e => e.elim))
              have NB := hid (heap_alloc_new w3 (.cells #[.slice a' cnt' cap', .int .i64 fr', .int .i64 room] 29))
              have MB := hid (alloc_block (o' := .cells #[.slice a' cnt' cap', .int .i64 fr', .int .i64 room] 29) DN.out.blk)
              clear PA PB DA KS NK DN M3 OPC HOL m0 m1 m2 q0 q1 q2
              generalize w3.alloc (.cells #[.slice a' cnt' cap', .int .i64 fr', .int .i64 room] 29) = w4 at *
              generalize w3.heap.size = nb at *
              rotate_left
              have TN := hid (DN.out.two _ (fun k => k = wr.heap.size) (three_mut w3 wr.heap.size (.slice a' cnt' cap') (.int .i64 fr') (.int .i64 room)) (fun k e => ⟨e, by subst e; show wr.heap.size < (wr.alloc _).heap.size; simp⟩))
              have NB := hid (three_blk (t := 29) (u0 := .slice a' cnt' cap') (u1 := .int .i64 fr') (u2 := .int .i64 room) (DN.out.chg.keeps (heap_alloc_new wr (.cells #[.slice none 0 0, .int .i64 0, .int .i64 0] 29)) (fun e => by have := (HOL.out _ e).2; omega)))
              have MB := hid ((three_mut w3 wr.heap.size (.slice a' cnt' cap') (.int .i64 fr') (.int .i64 room)).keeps DN.out.blk (fun e => hne e))
              clear PA PB DA KS NK DN M3 OPC HOL m0 m1 m2 q0 q1 q2 z0 z1 z2 zf0 zf1 zf2
              generalize ((w3.setCell ⟨wr.heap.size, 0, none⟩ (.slice a' cnt' cap')).setCell ⟨wr.heap.size, 1, none⟩ (.int .i64 fr')).setCell ⟨wr.heap.size, 2, none⟩ (.int .i64 room) = w4 at *
              generalize wr.heap.size = nb at *
              rotate_left
              all_goals
                obtain ⟨x0, x1, x2, g0, g1, g2⟩ := cells_at MB.out
                obtain ⟨y0, y1, y2, _, _, _⟩ := cells_at NB.out
                go_wp2_with fail
                generalize ((w4.setCell ⟨kb, 0, none⟩ (.slice a' cnt' cap')).setCell ⟨kb, 1, none⟩ (.int .i64 fr')).setCell ⟨kb, 2, none⟩ (.int .i64 room) = w5 at *
                clear x0 x1 x2 g0 g1 g2 y0 y1 y2 MB NB hmlt hwl hne hbl hl1 hl2
              all_goals
                go_roundg (max n2 n3 - (i + 1))
                case measure => omega
                case rel => exact ⟨i + 1, rfl, by omega, rfl, by go_num, hid (TN.out.swap.mono (by omega))⟩
            · have kB : ¬ (i : Int) < n3 := by omega
              go_wp2_with fail
              obtain ⟨o, fr, cnt, av, cp, f, o2, fr2, cnt2, av2, cp2, f2, hl1, hl2, pa, pb⟩ := TW.out
              have PA := hid pa
              have PB := hid pb
              clear pa pb TW
              have hc1 := PA.out.rn.cle
              have hc2 := PB.out.rn.cle
              have P := hid (fixed_calls wr.drew)
              have KS := hid (show ∀ w1, Below wr.drew.heap.size wr.drew w1 → w1.cell? ⟨mb, 0, none⟩ = some (.slice av cnt cp) ∧ w1.cell? ⟨mb, 1, none⟩ = some (.int .i64 fr) ∧ w1.cell? ⟨kb, 0, none⟩ = some (.slice av2 cnt2 cp2) ∧ w1.cell? ⟨kb, 1, none⟩ = some (.int .i64 fr2) from fun w1 b => by
                obtain ⟨k1, k2, _⟩ := cells_at (below_keeps (w := wr.drew) b PA.out.blk)
                obtain ⟨l1, l2, _⟩ := cells_at (below_keeps (w := wr.drew) b PB.out.blk)
                exact ⟨k1, k2, l1, l2⟩)
              have AL1 := hid (show ∀ w1, Below wr.drew.heap.size wr.drew w1 → Calls Try.prog 15 #[ptr B] w1 fun e w' => ∃ a, e = .returned (.slice a cnt cnt) ∧ AllRow w1 cnt f a w' ∧ Below wr.drew.heap.size wr.drew w' from fun w1 b => (all_n ((PA.out.rn.below (Below.refl _ _).drew).below b)).mono (fun e w' ⟨a, he, ha⟩ => ⟨a, he, ha, b.trans (ha.below.mono b.size)⟩))
              have AL2 := hid (show ∀ w1, Below wr.drew.heap.size wr.drew w1 → Calls Try.prog 15 #[ptr B2] w1 fun e w' => ∃ a, e = .returned (.slice a cnt2 cnt2) ∧ AllRow w1 cnt2 f2 a w' ∧ Below wr.drew.heap.size wr.drew w' from fun w1 b => (all_n ((PB.out.rn.below (Below.refl _ _).drew).below b)).mono (fun e w' ⟨a, he, ha⟩ => ⟨a, he, ha, b.trans (ha.below.mono b.size)⟩))
              have SM1 := hid (show ∀ w1 a1 w2, AllRow w1 cnt f a1 w2 → Below wr.drew.heap.size wr.drew w2 → Calls Try.prog 14 #[.slice a1 cnt cnt, .slice av cnt cp] w2 fun e w' => e = .returned (.bool true) ∧ ∃ d, w' = w2.drewN d from fun w1 a1 w2 h b =>
                same_yes (all_sk h (by omega)) ((PA.out.sk.below (Below.refl _ _).drew).below b) (by omega) (fun _ _ => rfl))
              have SM2 := hid (show ∀ w1 a1 w2, AllRow w1 cnt2 f2 a1 w2 → Below wr.drew.heap.size wr.drew w2 → Calls Try.prog 14 #[.slice a1 cnt2 cnt2, .slice av2 cnt2 cp2] w2 fun e w' => e = .returned (.bool true) ∧ ∃ d, w' = w2.drewN d from fun w1 a1 w2 h b =>
                same_yes (all_sk h (by omega)) ((PB.out.sk.below (Below.refl _ _).drew).below b) (by omega) (fun _ _ => rfl))
              have FR1 := hid (show ∀ w1, Below wr.drew.heap.size wr.drew w1 → Calls Try.prog 13 #[ptr B] w1 fun e w' => e = .returned (.int .i64 fr) ∧ w' = w1 from fun w1 b => from_n ((PA.out.rn.below (Below.refl _ _).drew).below b))
              have FR2 := hid (show ∀ w1, Below wr.drew.heap.size wr.drew w1 → Calls Try.prog 13 #[ptr B2] w1 fun e w' => e = .returned (.int .i64 fr2) ∧ w' = w1 from fun w1 b => from_n ((PB.out.rn.below (Below.refl _ _).drew).below b))
              have RM2 := hid (show ∀ w1, Below wr.drew.heap.size wr.drew w1 → Calls Try.prog 10 #[ptr B2] w1 fun e w' => e = .returned (.int .i64 room) ∧ w' = w1 from fun w1 b => room_n ((PB.out.rn.below (Below.refl _ _).drew).below b))
              have FIN := hid (show ∀ w1, Below wr.drew.heap.size wr.drew w1 → Below w.heap.size w w1 from fun w1 b => PA.out.bel.drew.trans (b.mono PA.out.bel.size))
              obtain ⟨m0, m1, n0, n1⟩ := KS.out wr.drew (Below.refl _ _)
              have m0 : wr.cell? ⟨mb, 0, none⟩ = some (.slice av cnt cp) := m0
              have m1 : wr.cell? ⟨mb, 1, none⟩ = some (.int .i64 fr) := m1
              have n0 : wr.cell? ⟨kb, 0, none⟩ = some (.slice av2 cnt2 cp2) := n0
              have n1 : wr.cell? ⟨kb, 1, none⟩ = some (.int .i64 fr2) := n1
              clear PA PB HOS2 HOS3
              go_region_held3 (fun w' => w'.cell? ⟨mb, 0, none⟩ = some (.slice av cnt cp) ∧ w'.cell? ⟨mb, 1, none⟩ = some (.int .i64 fr) ∧ w'.cell? ⟨kb, 0, none⟩ = some (.slice av2 cnt2 cp2) ∧ w'.cell? ⟨kb, 1, none⟩ = some (.int .i64 fr2)) (first | exact N9.out | exact N8.out | exact N7.out | exact N6.out | exact N5.out | go_keep)
                (first | (go_at_call 9; refine P.out.mono ?_; rintro e w5 ⟨rfl, b5⟩; have N5 := hid (KS.out w5 b5); have B5 := hid b5; clear b5) | (go_at_call_of 15 (ptr B); refine (AL1.out w5 B5.out).mono ?_; rintro e w6 ⟨a6, rfl, h6, b6⟩; have N6 := hid (KS.out w6 b6); have B6 := hid b6; have H6 := hid h6; clear b6 h6) | (go_at_call_of 14 (Value.slice av cnt cp); refine (SM1.out w5 a6 w6 H6.out B6.out).mono ?_; rintro e w7 ⟨rfl, d7, rfl⟩; have b7 := below_drewN B6.out d7; have N7 := hid (KS.out _ b7); have B7 := hid b7; clear b7) | (go_at_call_of 15 (ptr B2); refine (AL2.out (w6.drewN d7) B7.out).mono ?_; rintro e w8 ⟨a8, rfl, h8, b8⟩; have N8 := hid (KS.out w8 b8); have B8 := hid b8; have H8 := hid h8; clear b8 h8) | (go_at_call_of 14 (Value.slice av2 cnt2 cp2); refine (SM2.out (w6.drewN d7) a8 w8 H8.out B8.out).mono ?_; rintro e w9 ⟨rfl, d9, rfl⟩; have b9 := below_drewN B8.out d9; have N9 := hid (KS.out _ b9); have B9 := hid b9; clear b9) | (go_at_call_of 13 (ptr B); refine (FR1.out (w8.drewN d9) B9.out).mono ?_; rintro e w10 ⟨rfl, rfl⟩) | (go_at_call_of 13 (ptr B2); refine (FR2.out (w8.drewN d9) B9.out).mono ?_; rintro e w10 ⟨rfl, rfl⟩) | (go_at_call 10; refine (RM2.out (w8.drewN d9) B9.out).mono ?_; rintro e w10 ⟨rfl, rfl⟩))
              go_wp2_with fail
              go_ret
              exact ⟨rfl, FIN.out _ B9.out⟩
theorem ringCopies_calls (room : Int) (hwf : (Lit.int .u16 room).wf = true) (a : Option Addr) (n cap : Nat) (L H C : Nat → Int) (a2 : Option Addr) (n2 c2 : Nat) (L2 H2 C2 : Nat → Int) (a3 : Option Addr) (n3 c3 : Nat) (L3 H3 C3 : Nat → Int) (w : World)
    (OS : Tri w .u8 .i32 .i64 a n cap L H C) (OS2 : Tri w .u8 .i32 .i64 a2 n2 c2 L2 H2 C2) (OS3 : Tri w .u8 .i32 .i64 a3 n3 c3 L3 H3 C3) :
    Calls Try.prog 4 #[.int .u16 room, .slice a n cap, .slice a2 n2 c2, .slice a3 n3 c3] w fun e w' => e = .returned (.bool true) ∧ Below w.heap.size w w' := by
  by_cases hn : 100 < n ∨ 100 < n2 ∨ 100 < n3
  · exact ringCopies_long room a n cap a2 n2 c2 a3 n3 c3 hn w
  · have h : 0 ≤ room ∧ room ≤ 65535 := by
      simp [Lit.wf, IntKind.min, IntKind.max, IntKind.signed, IntKind.bits] at hwf
      simpa using hwf
    obtain ⟨r, rfl⟩ : ∃ r : Nat, room = r := ⟨room.toNat, by omega⟩
    exact ringCopies_short r (by omega) a n cap L H C a2 n2 c2 L2 H2 C2 a3 n3 c3 L3 H3 C3 (by omega) (by omega) (by omega) w OS OS2 OS3
end Go.Proofs.Ytgjeiikjpacocaa
