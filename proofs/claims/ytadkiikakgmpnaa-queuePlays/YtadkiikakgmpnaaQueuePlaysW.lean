/-
  The walk of the law QueuePlays.
-/
import Derived.Test.YtadkiikakgmpnaaQuP
namespace Go.Proofs.Ytadkiikakgmpnaa
open Go.RowKit Go.Maps Hp
set_option linter.unusedVariables false
set_option maxRecDepth 100000 in
set_option maxHeartbeats 12800000 in
theorem queuePlays_calls {w : World} {a : Option Addr} {n c : Nat} {ks : Nat → Int} {l : List Ent} (R : Ops w a n c ks l) (W : ∀ x ∈ l, (key x.1).wf = true) :
    Calls Try.prog 3 #[.slice a n c] w fun e w' => e = .returned (.bool true) ∧ Below w.heap.size w w' := by
  obtain ⟨i0, hi0, hz0, hz1, hz2⟩ := info_parts Try.infoEn
  have RW := hid R
  have WW := hid W
  have HLn := hid R.len
  clear R W
  by_cases hbig : 200 < n
  · have k0 : (200 : Int) < n := by omega
    go_enter Try.func3, Try.ntmps3
    go_wp2_with fail
    refine (qfixed_calls _).mono ?_
    rintro e w1 ⟨rfl, b1⟩
    have B1 := hid b1
    clear b1
    go_wp2_with fail
    go_ret
    exact ⟨rfl, B1.out⟩
  have k0 : ¬ (200 : Int) < n := by omega
  go_enter Try.func3, Try.ntmps3
  go_wp2_with fail
  refine (snew w w (Below.refl _ _)).mono ?_
  rintro e w1 ⟨O, M, v1, rfl, s1, _, _, _, _⟩
  have S2 := hid (s1.grow (w' := w1.alloc (.cells #[] 28)) ((Below.refl _ _).alloc (Nat.le_refl _) _) (X' := fun k => (Value.slice (some ⟨w1.heap.size, 0, none⟩) 0 0).ownBlock = some k) (fun k hk => by
    have : w1.heap.size = k := by simpa [Value.ownBlock] using hk
    exact .inr ⟨by omega, by simp; omega⟩))
  have L2 := hid (own_empty (w := w1) (base := 0) (e := 28) (size := 3) w1.heap.size rfl (Nat.zero_le _))
  have hs1 := s1.below.size
  clear s1
  go_wp2_with fail
  go_loopg [4, 26] n (fun r lv iv wr => ∃ (j : Nat) (vl v : Value) (q : List Ent), r = n - j ∧ vl = lv ∧ iv = .int .i64 (j : Int) ∧ j ≤ n ∧ Hid (q.length ≤ j) ∧ Hid (Sq w wr O M v q (fun k => vl.ownBlock = some k)) ∧ Hid (wr.ownsRow 0 28 3 vl q.length (evl q)) ∧ Hid (∀ k, vl.ownBlock = some k → w.heap.size ≤ k))
  case atStart => exact ⟨0, _, v1, [], rfl, rfl, rfl, by omega, hid (Nat.le_refl _), S2, L2, hid (fun k hk => by
    have : w1.heap.size = k := by simpa [Value.ownBlock] using hk
    omega)⟩
  case round =>
    obtain ⟨j, vl, v, q, rfl, rfl, rfl, hj, HQ, HS, HL, HB⟩ := hrel
    obtain ⟨al, cl, rfl, _⟩ := er_own HL.out
    by_cases hlt : j < n
    · have k1 : (j : Int) < n := by omega
      have k2 : (0 : Int) ≤ j := by omega
      have e2 : IntKind.i64.wrap ((j : Int) + 1) = j + 1 := i64_in (by omega) (by omega)
      have hq := HQ.out
      obtain ⟨b, off, rfl, hbl, p0, p1, p2, p3⟩ := (RW.out.below HS.out.below).at' j hlt
      have HX := hid (WW.out _ (et_mem (l := l) (i := j) (by rw [HLn.out]; exact hlt)))
      obtain ⟨⟨x0, x1, x2⟩, hx⟩ : ∃ x, et l j = x := ⟨_, rfl⟩
      obtain ⟨kd, hkd⟩ : ∃ k, ks j = k := ⟨_, rfl⟩
      rw [hx] at p1 p2 p3 HX
      rw [hkd] at p0
      simp only at p1 p2 p3 HX
      have P1 := hid (show Opb (wr.alloc (.cells #[.int .u8 kd, .int .i64 x0, .int .i64 x1, .int .i64 x2] 30)) 30 wr.heap.size kd (x0, x1, x2) from heap_alloc_new wr _)
      have ba := (Below.refl wr.heap.size wr).alloc (Nat.le_refl _) (.cells #[.int .u8 kd, .int .i64 x0, .int .i64 x1, .int .i64 x2] 30)
      have S1 := hid (HS.out.grow ba (X' := fun k => (Value.slice al q.length cl).ownBlock = some k ∨ k = wr.heap.size) (fun k hk => hk.imp id (fun e => ⟨by omega, by simp; omega⟩)))
      have L1 := hid (own_below HL.out ba)
      have c0 := P1.out.c0
      have c1 := P1.out.c1
      have c2 := P1.out.c2
      have c3 := P1.out.c3
      simp only at c0 c1 c2 c3
      have HBB := HB.out
      clear hx hkd ba HS HL HQ
      by_cases hk0 : kd = 0
      · -- Put
        subst hk0
        go_wp2_with fail
        obtain ⟨K, hK⟩ : ∃ K, wr.heap.size = K := ⟨_, rfl⟩
        obtain ⟨W1, hW1⟩ : ∃ W, wr.alloc (.cells #[.int .u8 0, .int .i64 x0, .int .i64 x1, .int .i64 x2] 30) = W := ⟨_, rfl⟩
        rw [hW1, hK] at S1 P1
        rw [hW1] at L1
        rw [hW1, hK]
        clear hW1 hK c0 c1 c2 c3 p0 p1 p2 p3
        refine (sput S1.out (x0, x1, x2) HX.out (by omega)).mono ?_
        rintro e w2 ⟨rfl, v2, s2, f2, _⟩
        have S2 := hid s2
        have L2 := hid (row_at L1.out (fun k hk => f2 k (.inl hk)))
        have P2 := hid (P1.out.at (f2 K (.inr rfl)))
        clear s2 f2 S1 L1 P1
        have c1 := P2.out.c1
        simp only at c1
        go_wp2_with fail
        refine (without_calls (er_of L2.out) x0 (by omega)).mono ?_
        rintro e w3 ⟨v3, rfl, o3, b3⟩
        have S3 := hid (S2.out.grow b3 (X' := fun k => v3.ownBlock = some k) (fun k hk => .inr (o3.lt k hk)))
        have O3 := hid o3
        have P3 := hid (P2.out.below b3)
        have hw2 := S2.out.below.size
        have hb3 := b3.size
        clear c1 o3 b3 S2 L2 P2
        have c1 := P3.out.c1
        have c2 := P3.out.c2
        have c3 := P3.out.c3
        simp only at c1 c2 c3
        have hwl := wo_le q x0
        go_wp2_with (at_builtin; refine wpList_append_src rfl _ _ 26 rfl w2.heap.size 28 i0 _ 3 24 Try.underlying26 hi0 hz0 hz1 hz2 rfl (by omega) _ (wo q x0).length (evl (wo q x0)) rfl (O3.out.alloc _) (some ⟨w3.heap.size, 0, none⟩) 1 1 [.int .i64 x0, .int .i64 x1, .int .i64 x2] rfl (Src.new (w := w3) #[.int .i64 x0, .int .i64 x1, .int .i64 x2] 28 w3.heap.size rfl rfl (by simp [Value.oneCell'])) (by unfold maxLen; omega) (by omega) (by simp; omega) ?_; intro v4 w4 ho4 hg4 ha4; have O4 := hid ho4; have G4 := hid hg4; have A4 := hid ha4; clear ho4 hg4 ha4)
        have O5 := hid (show w4.ownsRow 0 28 3 v4 (put q (x0, x1, x2)).length (evl (put q (x0, x1, x2))) from by
          have h := O4.out.mono (Nat.zero_le _)
          have e := evl_snoc (wo q x0) (x0, x1, x2)
          simp only at e
          rw [e] at h
          unfold put
          rw [List.length_append]
          exact h)
        have S5 := hid (S3.out.app _ G4.out (fun k hk => ⟨hk, by have := (O3.out.lt k hk).1; omega⟩) A4.out (fun k hk => (O5.out.lt k hk).2))
        have B5 := hid (show ∀ k, v4.ownBlock = some k → w.heap.size ≤ k from fun k hk => by
          rcases A4.out with h | h
          · have := (O3.out.lt k (h.symm.trans hk)).1; omega
          · rw [h] at hk; have := Option.some.inj hk; simp at this; omega)
        have N5 := hid (show (put q (x0, x1, x2)).length ≤ j + 1 from by unfold put; rw [List.length_append]; simp only [List.length_singleton]; omega)
        obtain ⟨a5, c5, rfl, _⟩ := er_own O5.out
        clear O4 G4 A4 O3 S3 P3 c1 c2 c3
        go_wp2_with fail
        refine (alen_calls S5.out.q).mono ?_
        rintro e w6 ⟨rfl, hw6⟩
        subst hw6
        go_wp2_with fail
        go_roundg (n - (j + 1))
        case measure => omega
        case rel => exact ⟨j + 1, _, _, _, rfl, rfl, by go_num, by omega, N5, S5, O5, B5⟩
      have t0 : (kd == 0) = false := by simpa using hk0
      by_cases hk1 : kd = 1
      · -- Drop
        subst hk1
        clear hk0 t0
        go_wp2_with fail
        obtain ⟨K, hK⟩ : ∃ K, wr.heap.size = K := ⟨_, rfl⟩
        obtain ⟨W1, hW1⟩ : ∃ W, wr.alloc (.cells #[.int .u8 1, .int .i64 x0, .int .i64 x1, .int .i64 x2] 30) = W := ⟨_, rfl⟩
        rw [hW1, hK] at S1 P1
        rw [hW1] at L1
        rw [hW1, hK]
        clear hW1 hK c0 c1 c2 c3 p0 p1 p2 p3
        refine (without_calls (er_of L1.out) x0 (by omega)).mono ?_
        rintro e w2 ⟨v2, rfl, o2, b2⟩
        have S2 := hid (S1.out.grow b2 (X' := fun k => v2.ownBlock = some k) (fun k hk => .inr (o2.lt k hk)))
        have O2 := hid (o2.mono (Nat.zero_le _))
        have B2 := hid (show ∀ k, v2.ownBlock = some k → w.heap.size ≤ k from fun k hk => Nat.le_trans S1.out.below.size (o2.lt k hk).1)
        have P2 := hid (P1.out.below b2)
        obtain ⟨tt, htt⟩ : ∃ t, decide ((wo q x0).length < q.length) = t := ⟨_, rfl⟩
        have HT := hid htt
        rw [htt]
        clear htt o2 b2 L1 P1
        have c1 := P2.out.c1
        simp only at c1
        go_wp2_with fail
        refine (sdrop S2.out x0 HX.out (by omega)).mono ?_
        rintro e w3 ⟨t, rfl, ht, v3, s3, f3, _⟩
        obtain rfl : t = tt := bool_same HT.out (ht.trans (wo_lt S2.out.q.dis))
        have S3 := hid s3
        have L3 := hid (row_at O2.out (fun k hk => f3 k hk))
        have N3 := hid (show (wo q x0).length ≤ j + 1 from by have := wo_le q x0; omega)
        clear ht s3 f3 S2 O2 P2 c1 HT S1
        obtain ⟨a3, c3, rfl, _⟩ := er_own L3.out
        go_wp2_with fail
        refine (alen_calls S3.out.q).mono ?_
        rintro e w6 ⟨rfl, hw6⟩
        subst hw6
        go_wp2_with fail
        go_roundg (n - (j + 1))
        case measure => omega
        case rel => exact ⟨j + 1, _, _, _, rfl, rfl, by go_num, by omega, N3, S3, L3, B2⟩
      have t1 : (kd == 1) = false := by simpa using hk1
      by_cases hk2 : kd = 2
      · -- Has
        subst hk2
        clear hk0 hk1 t0 t1
        go_wp2_with fail
        obtain ⟨K, hK⟩ : ∃ K, wr.heap.size = K := ⟨_, rfl⟩
        obtain ⟨W1, hW1⟩ : ∃ W, wr.alloc (.cells #[.int .u8 2, .int .i64 x0, .int .i64 x1, .int .i64 x2] 30) = W := ⟨_, rfl⟩
        rw [hW1, hK] at S1 P1
        rw [hW1] at L1
        rw [hW1, hK]
        clear hW1 hK c0 c1 c2 c3 p0 p1 p2 p3
        refine (ahas_calls S1.out.q x0 HX.out (by omega)).mono ?_
        rintro e w2 ⟨h2, b2⟩
        obtain ⟨y0, y1, y2, t, rfl, HY⟩ : ∃ y0 y1 y2 t, e = .returned (.tuple #[.agg #[.int .i64 y0, .int .i64 y1, .int .i64 y2], .bool t]) ∧ Hid ((t = true ∧ (y0, y1, y2) ∈ q ∧ y0 = x0) ∨ (t = false ∧ (∀ x ∈ q, x.1 ≠ x0) ∧ y0 = 0 ∧ y1 = 0 ∧ y2 = 0)) := by
          rcases h2 with ⟨⟨y0, y1, y2⟩, hm, hp, rfl⟩ | ⟨hn, rfl⟩
          · exact ⟨y0, y1, y2, true, rfl, hid (.inl ⟨rfl, hm, hp⟩)⟩
          · exact ⟨0, 0, 0, false, rfl, hid (.inr ⟨rfl, hn, rfl, rfl, rfl⟩)⟩
        have bb := b2.trans (((Below.refl w2.heap.size w2).alloc (Nat.le_refl _) (.cells #[.int .i64 y0, .int .i64 y1, .int .i64 y2] 28)).mono b2.size)
        have S2 := hid (S1.out.grow bb (X' := fun k => (Value.slice al q.length cl).ownBlock = some k) (fun k hk => .inl (.inl hk)))
        have L2 := hid (own_below L1.out bb)
        have P2 := hid (P1.out.below bb)
        have Y2 := hid (Bl.new w2 y0 y1 y2)
        clear h2 b2 bb S1 L1 P1
        have c1 := P2.out.c1
        simp only at c1
        go_wp2_with fail
        obtain ⟨K2, hK2⟩ : ∃ K, w2.heap.size = K := ⟨_, rfl⟩
        obtain ⟨W2, hW2⟩ : ∃ W, w2.alloc (.cells #[.int .i64 y0, .int .i64 y1, .int .i64 y2] 28) = W := ⟨_, rfl⟩
        rw [hW2, hK2] at Y2
        rw [hW2] at S2 L2 P2
        rw [hW2, hK2]
        clear hW2 hK2 c1
        refine (rhas_calls (er_of L2.out) x0 (by omega)).mono ?_
        rintro e w3 ⟨h3, b3⟩
        obtain rfl : e = .returned (.tuple #[.agg #[.int .i64 y0, .int .i64 y1, .int .i64 y2], .bool t]) := by
          rcases h3 with ⟨z, hm, hp, rfl⟩ | ⟨hn, rfl⟩
          · rcases HY.out with ⟨rfl, hm2, hp2⟩ | ⟨_, hn2, _⟩
            · obtain rfl : z = (y0, y1, y2) := dis_one S2.out.q.dis hm hm2 (by rw [hp]; exact hp2.symm)
              rfl
            · exact absurd hp (hn2 z hm)
          · rcases HY.out with ⟨rfl, hm2, hp2⟩ | ⟨rfl, hn2, rfl, rfl, rfl⟩
            · exact absurd hp2 (hn _ hm2)
            · rfl
        have bb := b3.trans (((Below.refl w3.heap.size w3).alloc (Nat.le_refl _) (.cells #[.int .i64 y0, .int .i64 y1, .int .i64 y2] 28)).mono b3.size)
        have S3 := hid (S2.out.grow bb (X' := fun k => (Value.slice al q.length cl).ownBlock = some k) (fun k hk => .inl hk))
        have L3 := hid (own_below L2.out bb)
        have Y3 := hid (Y2.out.below bb)
        have Z3 := hid (Bl.new w3 y0 y1 y2)
        clear h3 b3 bb S2 L2 P2 Y2 HY
        have c0 := Y3.out.c0
        have c1 := Y3.out.c1
        have c2 := Y3.out.c2
        have d0 := Z3.out.c0
        have d1 := Z3.out.c1
        have d2 := Z3.out.c2
        simp only at c0 c1 c2 d0 d1 d2
        have hne := Try.neqEn y0 y1 y2
        have N3 := hid (show q.length ≤ j + 1 by omega)
        cases t
        · go_wp2_with fail
          refine (alen_calls S3.out.q).mono ?_
          rintro e w6 ⟨rfl, hw6⟩
          subst hw6
          clear c0 c1 c2 d0 d1 d2 hne Y3 Z3
          go_wp2_with fail
          go_roundg (n - (j + 1))
          case measure => omega
          case rel => exact ⟨j + 1, _, _, _, rfl, rfl, by go_num, by omega, N3, S3, L3, HB⟩
        · go_wp2_with fail
          refine (alen_calls S3.out.q).mono ?_
          rintro e w6 ⟨rfl, hw6⟩
          subst hw6
          clear c0 c1 c2 d0 d1 d2 hne Y3 Z3
          go_wp2_with fail
          go_roundg (n - (j + 1))
          case measure => omega
          case rel => exact ⟨j + 1, _, _, _, rfl, rfl, by go_num, by omega, N3, S3, L3, HB⟩
      have t2 : (kd == 2) = false := by simpa using hk2
      -- Take
      clear hk0 hk1 hk2
      go_wp2_with fail
      obtain ⟨K, hK⟩ : ∃ K, wr.heap.size = K := ⟨_, rfl⟩
      obtain ⟨W1, hW1⟩ : ∃ W, wr.alloc (.cells #[.int .u8 kd, .int .i64 x0, .int .i64 x1, .int .i64 x2] 30) = W := ⟨_, rfl⟩
      rw [hW1, hK] at S1 P1
      rw [hW1] at L1
      rw [hW1, hK]
      clear hW1 hK c0 c1 c2 c3 p0 p1 p2 p3 t0 t1 t2 P1
      have D1 := hid S1.out.q.dis
      refine (stake S1.out (by omega)).mono ?_
      rintro e w2 (⟨rfl, rfl, v2, s2, f2, _⟩ | ⟨⟨y0, y1, y2⟩, hm, hlst, rfl, v2, s2, f2, _⟩)
      · unfold va
        have ba := (Below.refl w2.heap.size w2).alloc (Nat.le_refl _) (.cells #[.int .i64 0, .int .i64 0, .int .i64 0] 28)
        have S2 := hid (s2.grow ba (X' := fun k => (Value.slice al ([] : List Ent).length cl).ownBlock = some k) (fun k hk => .inl (.inl hk)))
        have L2 := hid (own_below (row_at L1.out (fun k hk => f2 k (.inl hk))) ba)
        have Y2 := hid (Bl.new w2 0 0 0)
        clear s2 f2 ba S1 L1
        go_wp2_with fail
        obtain ⟨K2, hK2⟩ : ∃ K, w2.heap.size = K := ⟨_, rfl⟩
        obtain ⟨W2, hW2⟩ : ∃ W, w2.alloc (.cells #[.int .i64 0, .int .i64 0, .int .i64 0] 28) = W := ⟨_, rfl⟩
        rw [hW2, hK2] at Y2
        rw [hW2] at S2 L2
        rw [hW2, hK2]
        clear hW2 hK2
        refine (first_calls (er_of L2.out) (by simp)).mono ?_
        rintro e w3 ⟨h3, b3⟩
        obtain rfl : e = .returned (.int .i64 (-1)) := by
          rcases h3 with ⟨_, rfl⟩ | ⟨k, hk, _⟩
          · rfl
          · cases hk
        have S3 := hid (S2.out.grow b3 (X' := fun k => (Value.slice al ([] : List Ent).length cl).ownBlock = some k) (fun k hk => .inl hk))
        have L3 := hid (own_below L2.out b3)
        have Y3 := hid (Y2.out.below b3)
        clear h3 b3 S2 L2 Y2
        have c0 := Y3.out.c0
        have c1 := Y3.out.c1
        have c2 := Y3.out.c2
        simp only at c0 c1 c2
        have hne := Try.neqEn 0 0 0
        go_wp2_with fail
        go_quiet (fail)
        have S4 := hid (S3.out.grow (below_drewN (Below.refl _ _) nq) (X' := fun k => (Value.slice al ([] : List Ent).length cl).ownBlock = some k) (fun k hk => .inl hk))
        have L4 := hid (own_below L3.out (below_drewN (Below.refl _ _) nq))
        clear c0 c1 c2 hne Y3 S3 L3
        go_wp2_with fail
        refine (alen_calls S4.out.q).mono ?_
        rintro e w6 ⟨rfl, hw6⟩
        subst hw6
        go_wp2_with fail
        go_roundg (n - (j + 1))
        case measure => omega
        case rel => exact ⟨j + 1, _, _, [], rfl, rfl, by go_num, by omega, hid (Nat.zero_le _), S4, L4, HB⟩
      · unfold va
        have HM := hid (And.intro hm hlst)
        have ba := (Below.refl w2.heap.size w2).alloc (Nat.le_refl _) (.cells #[.int .i64 y0, .int .i64 y1, .int .i64 y2] 28)
        have S2 := hid (s2.grow ba (X' := fun k => (Value.slice al q.length cl).ownBlock = some k) (fun k hk => .inl (.inl hk)))
        have L2 := hid (own_below (row_at L1.out (fun k hk => f2 k (.inl hk))) ba)
        have Y2 := hid (Bl.new w2 y0 y1 y2)
        clear s2 f2 ba S1 L1 hm hlst
        go_wp2_with fail
        obtain ⟨K2, hK2⟩ : ∃ K, w2.heap.size = K := ⟨_, rfl⟩
        obtain ⟨W2, hW2⟩ : ∃ W, w2.alloc (.cells #[.int .i64 y0, .int .i64 y1, .int .i64 y2] 28) = W := ⟨_, rfl⟩
        rw [hW2, hK2] at Y2
        rw [hW2] at S2 L2
        rw [hW2, hK2]
        clear hW2 hK2
        refine (first_calls (er_of L2.out) (by omega)).mono ?_
        rintro e w3 ⟨h3, b3⟩
        obtain ⟨k, hk, rfl, hek⟩ : ∃ k : Nat, k < q.length ∧ e = .returned (.int .i64 (k : Int)) ∧ et q k = (y0, y1, y2) := by
          rcases h3 with ⟨rfl, _⟩ | ⟨k, hk, rfl, hl2⟩
          · exact absurd HM.out.1 (by simp)
          · exact ⟨k, hk, rfl, least_one D1.out (et_mem hk) HM.out.1 hl2 HM.out.2⟩
        have S3 := hid (S2.out.grow b3 (X' := fun k => (Value.slice al q.length cl).ownBlock = some k) (fun k hk => .inl hk))
        have L3 := hid (own_below L2.out b3)
        have Y3 := hid (Y2.out.below b3)
        clear h3 b3 S2 L2 Y2
        obtain ⟨b', off', rfl, hb', d0, d1, d2⟩ := (er_of L3.out).at' hk
        rw [hek] at d0 d1 d2
        have c0 := Y3.out.c0
        have c1 := Y3.out.c1
        have c2 := Y3.out.c2
        simp only at c0 c1 c2 d0 d1 d2
        have hne := Try.neqEn y0 y1 y2
        have g0 : (0 : Int) ≤ k := by omega
        have g1 : (k : Int) < q.length := by omega
        have g2 : decide ((0 : Int) ≤ (k : Int)) = true := decide_eq_true g0
        clear hek
        go_wp2_with fail
        go_quiet (fail)
        have bq := below_drewN (Below.refl w3.heap.size w3) nq
        have S4 := hid (S3.out.grow bq (X' := fun k => (Value.slice (some ⟨b', off', none⟩) q.length cl).ownBlock = some k) (fun k hk => .inl hk))
        have L4 := hid (own_below L3.out bq)
        have Y4 := hid (Y3.out.below bq)
        obtain ⟨W4, hW4⟩ : ∃ W, w3.drewN nq = W := ⟨_, rfl⟩
        rw [hW4] at S4 L4 Y4
        rw [hW4]
        clear hW4 c0 c1 c2 d0 d1 d2 hne Y3 S3 L3 bq
        have c0 := Y4.out.c0
        simp only at c0
        go_wp2_with fail
        refine (without_calls (er_of L4.out) y0 (by omega)).mono ?_
        rintro e w5 ⟨v5, rfl, o5, b5⟩
        have S5 := hid (S4.out.grow b5 (X' := fun k => v5.ownBlock = some k) (fun k hk => .inr (o5.lt k hk)))
        have O5 := hid (o5.mono (Nat.zero_le _))
        have B5 := hid (show ∀ k, v5.ownBlock = some k → w.heap.size ≤ k from fun k hk => Nat.le_trans S4.out.below.size (o5.lt k hk).1)
        have N5 := hid (show (wo q y0).length ≤ j + 1 from by have := wo_le q y0; omega)
        clear o5 b5 S4 L4 Y4 c0
        obtain ⟨a5, c5, rfl, _⟩ := er_own O5.out
        go_wp2_with fail
        refine (alen_calls S5.out.q).mono ?_
        rintro e w6 ⟨rfl, hw6⟩
        subst hw6
        go_wp2_with fail
        go_roundg (n - (j + 1))
        case measure => omega
        case rel => exact ⟨j + 1, _, _, _, rfl, rfl, by go_num, by omega, N5, S5, O5, B5⟩
    · have hjn : j = n := by omega
      have k1 : ¬ ((j : Int) < n) := by omega
      have BF := hid HS.out.below
      clear HS HL HQ HB hjn
      go_wp2_with fail
      refine (qfixed_calls _).mono ?_
      rintro e w2 ⟨rfl, b2⟩
      have B2 := hid (BF.out.trans (b2.mono BF.out.size))
      clear b2 BF
      go_wp2_with fail
      go_ret
      exact ⟨rfl, B2.out⟩
end Go.Proofs.Ytadkiikakgmpnaa
