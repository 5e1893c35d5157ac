/-
  The walk of merge.Write.
-/
import Derived.Test.YtecbmonbeogdjaaDoorMgE0
import Derived.Test.YtecbmonbeogdjaaDoorFlA
import Derived.Test.YtecbmonbeogdjaaDoorLnN4
import Derived.Deep.RegionHeld3
import Derived.Deep.RegionWith
import Derived.Lib.SlBytesConst
namespace Go.Proofs.YtecbmonbeogdjaaDoor
open Go.RowKit
open Go.Lib (decDigits itoa strCells)
set_option linter.unusedVariables false

/-- Tables may be written. -/
def Mg.Ok (rs : Mg.Rows) (ps : Mg.Prs) : Prop := Mg.All rs ∧ Mg.AllP ps ∧ rs.length ≤ 4096 ∧ ps.length ≤ 16384
/-- What Write answers. -/
def WmOut (rs : Mg.Rows) (ps : Mg.Prs) (e : Ending) (w' : World) : Prop :=
  (Mg.Ok rs ps ∧ ∃ a c, e = .returned (.tuple #[.slice a (Mg.fileL rs ps).length c, .bool true]) ∧ Sl w' a (Mg.fileL rs ps).length c (bytesF (mk (Mg.fileL rs ps)))) ∨
  (¬ Mg.Ok rs ps ∧ e = .returned (.tuple #[.slice none 0 0, .bool false]))
/-- What is written ahead of the j-th row, and of the j-th pair. -/
def Mg.pre1 (rs : Mg.Rows) (j : Nat) : List UInt8 := (Mg.lv ++ [10]) ++ Mg.fileOf ((rs.take j).map Mg.rowL)
def Mg.pre2 (rs : Mg.Rows) (ps : Mg.Prs) (j : Nat) : List UInt8 := (Mg.lv ++ [10]) ++ Mg.fileOf (rs.map Mg.rowL) ++ (Mg.lm ++ [10]) ++ Mg.fileOf ((ps.take j).map Mg.pairL)
theorem Mg.pre1_len {rs : Mg.Rows} (h : Mg.All rs) (j : Nat) (hj : j ≤ rs.length) : (Mg.pre1 rs j).length ≤ 6 + 137 * j := by
  unfold Mg.pre1
  have := Mg.rows_len (h.take j)
  rw [List.length_take] at this
  have h6 : (Mg.lv ++ [10]).length = 6 := rfl
  rw [List.length_append, h6]
  omega
theorem Mg.pre2_len {rs : Mg.Rows} {ps : Mg.Prs} (h : Mg.All rs) (k : Mg.AllP ps) (j : Nat) (hj : j ≤ ps.length) : (Mg.pre2 rs ps j).length ≤ 13 + 137 * rs.length + 258 * j := by
  unfold Mg.pre2
  have h1 := Mg.rows_len h
  have h2 := Mg.pairs_len (k.take j)
  rw [List.length_take] at h2
  have h6 : (Mg.lv ++ [10]).length = 6 := rfl
  have h7 : (Mg.lm ++ [10]).length = 7 := rfl
  rw [List.length_append, List.length_append, List.length_append, h6, h7]
  omega
theorem Mg.pre1_snoc {rs : Mg.Rows} {j : Nat} (h : j < rs.length) {t : ByteArray} {k : Int} (ht : tat rs j = t) (hk : kat rs j = k) : Mg.pre1 rs (j + 1) = Mg.pre1 rs j ++ (Mg.rowL (t, k) ++ [10]) := by
  unfold Mg.pre1
  rw [Rk.take_snoc h ht hk, List.map_append, Mg.fileOf_app]
  simp [Mg.fileOf]
theorem Mg.pre2_snoc {rs : Mg.Rows} {ps : Mg.Prs} {j : Nat} (h : j < ps.length) {t k : ByteArray} (ht : lat ps j = t) (hk : gat ps j = k) : Mg.pre2 rs ps (j + 1) = Mg.pre2 rs ps j ++ (Mg.pairL (t, k) ++ [10]) := by
  unfold Mg.pre2
  rw [Mg.ptake_snoc h ht hk, List.map_append, Mg.fileOf_app]
  simp [Mg.fileOf]
theorem Mg.pre2_zero (rs : Mg.Rows) (ps : Mg.Prs) : Mg.pre2 rs ps 0 = Mg.pre1 rs rs.length ++ (Mg.lm ++ [10]) := by
  unfold Mg.pre2 Mg.pre1
  simp [Mg.fileOf]
theorem Mg.pre2_all (rs : Mg.Rows) (ps : Mg.Prs) : Mg.pre2 rs ps ps.length = Mg.fileL rs ps := by
  rw [Mg.fileL_eq]
  unfold Mg.pre2
  rw [List.take_of_length_le (Nat.le_refl _)]
theorem cells_voc : ∀ (j : Nat) (u : Value), (Rk.bv (Mg.lv ++ [10]))[j]? = some u → (#[.int .u8 118, .int .u8 111, .int .u8 99, .int .u8 97, .int .u8 98, .int .u8 10] : Array Value)[j]? = some u := by
  intro j u h
  rw [← h]
  rw [← Array.getElem?_toList]
  rfl

set_option maxRecDepth 100000 in
set_option maxHeartbeats 3200000 in
theorem mWrite_calls {w : World} {a ap : Option Addr} {n c m cp : Nat} {rs : Mg.Rows} {ps : Mg.Prs} (h1 : Rw w a n c rs) (h2 : Pw w ap m cp ps) (ht : Tab w) :
    Calls Tryd.prog 8 #[.agg #[.slice a n c, .slice ap m cp]] w fun e w' => WmOut rs ps e w' ∧ Below w.heap.size w w' := by
  obtain ⟨i0, hi, hz0, hz1, hz2⟩ := info_parts Tryd.info8
  have hl := h1.len
  have hlp := h2.len
  have B0 := hid ((Below.refl w.heap.size w).alloc (Nat.le_refl _) (.cells #[.slice a n c, .slice ap m cp] 25))
  have X0 := hid (Bx2.new w 25 (.slice a n c) (.slice ap m cp))
  have H0 := hid (h1.below B0.out)
  have P0 := hid (h2.below B0.out)
  have T0 := hid (ht.below B0.out)
  clear h1 h2 ht
  by_cases hn : 4096 < n
  · have hn' : (4096 : Int) < n := by omega
    have HN := hid (show ¬ Mg.Ok rs ps from fun h => by have := h.2.2.1; omega)
    go_enter Tryd.func8, Tryd.ntmps8
    go_wp2_with fail
    go_ret2
    exact ⟨.inr ⟨HN.out, rfl⟩, B0.out⟩
  have hn' : ¬ (4096 : Int) < n := by omega
  by_cases hm : 16384 < m
  · have hm' : (16384 : Int) < m := by omega
    have HN := hid (show ¬ Mg.Ok rs ps from fun h => by have := h.2.2.2; omega)
    go_enter Tryd.func8, Tryd.ntmps8
    go_wp2_with fail
    go_ret2
    exact ⟨.inr ⟨HN.out, rfl⟩, B0.out⟩
  have hm' : ¬ (16384 : Int) < m := by omega
  have kc := fun (w : World) (C : Array Value) (n c : Nat) => Lib.run_convert_bytes_const (P := Tryd.prog) w 28 5 C n c Tryd.underlying28 Tryd.underlying5
  go_enter Tryd.func8, Tryd.ntmps8
  go_wp2_with fail
  refine (mContains_calls H0.out (by omega)).mono ?_
  rintro e w1 ⟨ho, hb1⟩
  have B1 := hid (B0.out.trans (hb1.mono B0.out.size))
  have X1 := hid (X0.out.below hb1 X0.out.lt)
  have H1 := hid (H0.out.below hb1)
  have P1 := hid (P0.out.below hb1)
  have T1 := hid (T0.out.below hb1)
  clear hb1 B0 X0 H0 P0 T0
  rcases ho.of with ⟨rfl, h⟩ | ⟨rfl, h⟩
  · have HN := hid (show ¬ Mg.Ok rs ps from fun hh => h hh.1)
    clear ho h
    go_wp2_with fail
    go_ret2
    exact ⟨.inr ⟨HN.out, rfl⟩, B1.out⟩
  have HA := hid (Classical.byContradiction fun hh => h hh)
  clear ho h
  have x0 := X1.out.cell0
  have x1 := X1.out.cell1
  go_wp2_with fail
  refine (mContainsP_calls P1.out (by omega)).mono ?_
  rintro e w2 ⟨ho, hb2⟩
  have B2 := hid (B1.out.trans (hb2.mono B1.out.size))
  have X2 := hid (X1.out.below hb2 X1.out.lt)
  have H2 := hid (H1.out.below hb2)
  have P2 := hid (P1.out.below hb2)
  have T2 := hid (T1.out.below hb2)
  clear hb2 B1 X1 H1 P1 T1 x0 x1
  rcases ho.of with ⟨rfl, h⟩ | ⟨rfl, h⟩
  · have HN := hid (show ¬ Mg.Ok rs ps from fun hh => h hh.2.1)
    clear ho h
    go_wp2_with fail
    go_ret2
    exact ⟨.inr ⟨HN.out, rfl⟩, B2.out⟩
  have HP := hid (Classical.byContradiction fun hh => h hh)
  have HOK := hid (show Mg.Ok rs ps from ⟨HA.out, HP.out, by omega, by omega⟩)
  clear ho h
  have x0 := X2.out.cell0
  have x1 := X2.out.cell1
  have y0 := cell_alloc x0 (.cells #[.int .u8 118, .int .u8 111, .int .u8 99, .int .u8 97, .int .u8 98, .int .u8 10] 5 (6, 7))
  have F0 := hid (show Fl (w2.alloc (.cells #[.int .u8 118, .int .u8 111, .int .u8 99, .int .u8 97, .int .u8 98, .int .u8 10] 5 (6, 7))) w2.heap.size 5 (.slice (some ⟨w2.heap.size, 0, none⟩) 6 6) (Mg.pre1 rs 0).length (Rk.bv (Mg.pre1 rs 0)) from
    .inr ⟨w2.heap.size, rfl, Nat.le_refl _, by simp, by simp [Rk.bv], fun j u hu => by
      rw [World.cell?_alloc_mark]
      exact cells_voc j u (by simpa [Mg.pre1, Mg.fileOf] using hu)⟩)
  have D0 := hid ((Below.refl w2.heap.size w2).alloc (Nat.le_refl _) (.cells #[.int .u8 118, .int .u8 111, .int .u8 99, .int .u8 97, .int .u8 98, .int .u8 10] 5 (6, 7)))
  go_wp2_with fail
  clear kc
  go_loopg [4, 32] n (fun r v iv wr => ∃ j : Nat, r = n - j ∧ j ≤ n ∧ iv = .int .i64 j ∧ Hid (Fl wr w2.heap.size 5 v (Mg.pre1 rs j).length (Rk.bv (Mg.pre1 rs j))) ∧ Hid (Below w2.heap.size w2 wr))
  case atStart => exact ⟨0, rfl, by omega, rfl, F0, D0⟩
  case round =>
    obtain ⟨j, rfl, hj, rfl, HO, HB⟩ := hrel
    by_cases hlt : j < n
    · have k1 : (j : Int) < n := by omega
      have k0 : (0 : Int) ≤ j := by omega
      have e2 : IntKind.i64.wrap ((j : Int) + 1) = j + 1 := i64_in (by omega) (by omega)
      obtain ⟨b, off, rfl, hbl, hc⟩ := (H2.out.below HB.out).at' (by omega)
      obtain ⟨q1, p1⟩ := hc j hlt
      obtain ⟨t, ht⟩ : ∃ t, tat rs j = t := ⟨_, rfl⟩
      obtain ⟨k, hk⟩ : ∃ k, kat rs j = k := ⟨_, rfl⟩
      have HMy := hid ((Mg.all_iff hl).1 HA.out j hlt)
      rw [ht, hk] at HMy
      rw [ht] at q1
      rw [hk] at p1
      have HF := hid (Mg.pre1_snoc (by omega) ht hk)
      have hlen := Mg.pre1_len HA.out j (by omega)
      have hwl := (Mg.wrS_len t).2
      have hD : (itoa k).length ≤ 7 := (Ln.num_itoa HMy.out.2.2.1 HMy.out.2.2.2).1.2.1
      have hDs := mk_size (itoa k)
      have ht64 : t.size ≤ 64 := HMy.out.2.1
      have hk0 : 0 ≤ k := HMy.out.2.2.1
      have hk9 : k ≤ 9999999 := HMy.out.2.2.2
      obtain ⟨E, hE⟩ : ∃ E, Mg.wrS t = E := ⟨_, rfl⟩
      obtain ⟨D, hDD⟩ : ∃ D, mk (itoa k) = D := ⟨_, rfl⟩
      rw [hE] at hwl
      rw [hDD] at hDs
      have he : E.size ≤ 128 := by omega
      have hd : D.size ≤ 7 := by omega
      have k2 : ¬ 9223372036854775807 < E.size + 1 := by omega
      have k3 : ¬ 9223372036854775807 < E.size + 1 + D.size := by omega
      have k4 : ¬ 9223372036854775807 < E.size + 1 + D.size + 1 := by omega
      have hs1 : (E ++ (⟨#[32]⟩ : ByteArray)).size = E.size + 1 := by rw [ByteArray.size_append]; rfl
      have hs2 : ((E ++ (⟨#[32]⟩ : ByteArray)) ++ D).size = E.size + 1 + D.size := by rw [ByteArray.size_append, hs1]
      have hs3 : (((E ++ (⟨#[32]⟩ : ByteArray)) ++ D) ++ (⟨#[10]⟩ : ByteArray)).size = E.size + 1 + D.size + 1 := by rw [ByteArray.size_append, hs2]; rfl
      have HS3 := hid hs3
      have HL := hid (show ((E ++ (⟨#[32]⟩ : ByteArray)) ++ D) ++ (⟨#[10]⟩ : ByteArray) = mk (Mg.rowL (t, k) ++ [10]) by
        unfold Mg.rowL
        rw [hE, ← hDD]
        apply by_inj
        rw [by_append, by_append, by_append, by_mk, by_mk]
        simp [by_])
      have HE := hid hE
      have HDD := hid hDD
      obtain ⟨N, hN⟩ : ∃ N, (Mg.pre1 rs j).length = N := ⟨_, rfl⟩
      rw [hN] at HO hlen
      have HO' := HO
      have HN := hid hN
      have Y3 := hid (Bx2.new wr 43 (.string t) (.int .i64 k))
      have B3 := hid (HB.out.alloc HB.out.size (.cells #[.string t, .int .i64 k] 43))
      have F3 := hid (HO.out.below ((Below.refl _ wr).alloc (Nat.le_refl _) (.cells #[.string t, .int .i64 k] 43)))
      clear hc ht hk hD hDs hE hDD hN hwl HO hs3 hs1 hs2
      have T3 := hid (T2.out.below B3.out)
      have N3 := hid (And.intro Y3.out.cell0 Y3.out.cell1)
      have hM3 := HB.out.size
      go_wp2_with fail
      obtain ⟨W, hW⟩ : ∃ W, wr.alloc (.cells #[.string t, .int .i64 k] 43) = W := ⟨_, rfl⟩
      rw [hW] at Y3 B3 F3 T3 N3 ⊢
      obtain ⟨nb, hnb⟩ : ∃ nb, wr.heap.size = nb := ⟨_, rfl⟩
      rw [hnb] at Y3 N3 ⊢
      have hWs := hid (show w2.heap.size ≤ W.heap.size by rw [← hW]; simp; omega)
      have hne : Hid (∀ g, u4.ownBlock = some g → g ≠ nb) := hid (fun g hg e => by have := (HO'.out.lt g hg).2; omega)
      clear hW hnb q1 p1
      have n0 := N3.out.1
      have n1 := N3.out.2
      have V3 := fun (W' : World) (h : Below W.heap.size W W') => hid (And.intro (Y3.out.below h Y3.out.lt).cell0 (Y3.out.below h Y3.out.lt).cell1)
      go_region_held3 (fun w' => w'.cell? ⟨nb, 0, none⟩ = some (.string t) ∧ w'.cell? ⟨nb, 1, none⟩ = some (.int .i64 k)) (first | exact N6.out | exact N5.out | exact N4.out | exact N3.out | go_keep)
        (first | (go_at_call 16; refine (writing_calls t _ (by omega)).mono ?_; rintro e w4 ⟨rfl, hb4⟩; have C4 := hid ((Below.refl W.heap.size W).drew.trans (hb4.mono (Nat.le_refl _))); have N4 := V3 w4 C4.out; rw [HE.out]; clear hb4) | (go_at_call 17; refine (digits_calls k (by omega) (by omega) _ (T3.out.below C4.out)).mono ?_; rintro e w5 ⟨rfl, hb5⟩; have C5 := hid (C4.out.trans (hb5.mono C4.out.size)); have N5 := V3 w5 C5.out; rw [HDD.out]; clear hb5) | (refine step_append_fl rfl _ _ 28 9 rfl i0 Tryd.underlying28 Tryd.underlying9 hi hz0 hz1 hz2 (by rfl) (F3.out.below C5.out) (((E ++ (⟨#[32]⟩ : ByteArray)) ++ D) ++ (⟨#[10]⟩ : ByteArray)) (by rfl) (by rw [HS3.out]; omega) (by rw [HS3.out]; unfold maxLen; omega) (by rw [HS3.out]; omega) (Nat.le_trans hWs.out C5.out.size) ?_; intro v6 w6 ho6 hg6; have N6 := hid (And.intro (hg6.cell N5.out.1 (fun e => hne.out _ e.symm rfl)) (hg6.cell N5.out.2 (fun e => hne.out _ e.symm rfl)))))
      have D6 := hid ((B3.out.trans (C5.out.mono hWs.out)).grown hg6 (Nat.le_trans hWs.out C5.out.size) (fun j hj => (HO'.out.lt j hj).1))
      have O6 := hid (show Fl w6 w2.heap.size 5 v6 (Mg.pre1 rs (j + 1)).length (Rk.bv (Mg.pre1 rs (j + 1))) from .inl (by
        rw [HF.out, ← Rk.bv_append, List.length_append, HN.out, ← mk_size (Mg.rowL (t, k) ++ [10]), ← Rk.bv_str (Mg.rowL (t, k) ++ [10]), ← HL.out]
        exact ho6))
      clear ho6 hg6 C4 C5 N3 N4 N5 N6 V3 n0 n1
      go_wp2_with fail
      go_roundg (n - (j + 1))
      case measure => omega
      case rel => exact ⟨j + 1, rfl, by omega, by go_num, O6, D6⟩
    · obtain rfl : j = n := by omega
      have k1 : ¬ (j : Int) < j := by omega
      have hlen := Mg.pre1_len HA.out j (by omega)
      have hM3 := HB.out.size
      obtain ⟨N, hN⟩ : ∃ N, (Mg.pre1 rs j).length = N := ⟨_, rfl⟩
      rw [hN] at HO hlen
      have HN := hid hN
      clear hN x0 x1 y0 F0 D0
      go_wp2_with (at_builtin; refine wpList_append_fl rfl _ _ 28 9 rfl i0 Tryd.underlying28 Tryd.underlying9 hi hz0 hz1 hz2 rfl HO.out (⟨#[109, 101, 114, 103, 101, 115, 10]⟩ : ByteArray) rfl (by decide) (by show N + 7 ≤ maxLen; unfold maxLen; omega) (by show N + 7 ≤ _; omega) hM3 ?_)
      intro v7 w7 ho7 hg7
      have D7 := hid (HB.out.grown hg7 hM3 (fun j hj => (HO.out.lt j hj).1))
      have O7 := hid (show w7.ownsRow w2.heap.size 5 1 v7 (Mg.pre2 rs ps 0).length (Rk.bv (Mg.pre2 rs ps 0)) by
        rw [Mg.pre2_zero, hl, ← Rk.bv_append, List.length_append, HN.out]
        exact ho7)
      have x7 := (X2.out.below D7.out X2.out.lt).cell1
      clear ho7 hg7 HO HB
      go_wp2_with fail
      go_loopg [4, 53] m (fun r v iv wr => ∃ j2 : Nat, r = m - j2 ∧ j2 ≤ m ∧ iv = .int .i64 j2 ∧ Hid (wr.ownsRow w2.heap.size 5 1 v (Mg.pre2 rs ps j2).length (Rk.bv (Mg.pre2 rs ps j2))) ∧ Hid (Below w2.heap.size w2 wr))
      case atStart => exact ⟨0, rfl, by omega, rfl, O7, D7⟩
      case round =>
        obtain ⟨j2, rfl, hj2, rfl, HO, HB⟩ := hrel
        clear k1
        by_cases hlt : j2 < m
        · have k1 : (j2 : Int) < m := by omega
          have k0 : (0 : Int) ≤ j2 := by omega
          have e2 : IntKind.i64.wrap ((j2 : Int) + 1) = j2 + 1 := i64_in (by omega) (by omega)
          obtain ⟨b, off, rfl, hbl, hc⟩ := (P2.out.below HB.out).at' (by omega)
          obtain ⟨q1, p1⟩ := hc j2 hlt
          obtain ⟨t, ht⟩ : ∃ t, lat ps j2 = t := ⟨_, rfl⟩
          obtain ⟨k, hk⟩ : ∃ k, gat ps j2 = k := ⟨_, rfl⟩
          have HMy := hid ((Mg.allP_iff hlp).1 HP.out j2 hlt)
          rw [ht, hk] at HMy
          rw [ht] at q1
          rw [hk] at p1
          have HF := hid (Mg.pre2_snoc (rs := rs) (by omega) ht hk)
          have hlen2 := Mg.pre2_len HA.out HP.out j2 (by omega)
          have hwl := (Mg.wrS_len t).2
          have hwl2 := (Mg.wrS_len k).2
          have ht64 : t.size ≤ 64 := HMy.out.1.2
          have hk64 : k.size ≤ 64 := HMy.out.2.2
          obtain ⟨E, hE⟩ : ∃ E, Mg.wrS t = E := ⟨_, rfl⟩
          obtain ⟨D, hDD⟩ : ∃ D, Mg.wrS k = D := ⟨_, rfl⟩
          rw [hE] at hwl
          rw [hDD] at hwl2
          have he : E.size ≤ 128 := by omega
          have hd : D.size ≤ 128 := by omega
          have k2 : ¬ 9223372036854775807 < E.size + 1 := by omega
          have k3 : ¬ 9223372036854775807 < E.size + 1 + D.size := by omega
          have k4 : ¬ 9223372036854775807 < E.size + 1 + D.size + 1 := by omega
          have hs1 : (E ++ (⟨#[32]⟩ : ByteArray)).size = E.size + 1 := by rw [ByteArray.size_append]; rfl
          have hs2 : ((E ++ (⟨#[32]⟩ : ByteArray)) ++ D).size = E.size + 1 + D.size := by rw [ByteArray.size_append, hs1]
          have HS3 := hid (show (((E ++ (⟨#[32]⟩ : ByteArray)) ++ D) ++ (⟨#[10]⟩ : ByteArray)).size = E.size + 1 + D.size + 1 by rw [ByteArray.size_append, hs2]; rfl)
          have HL := hid (show ((E ++ (⟨#[32]⟩ : ByteArray)) ++ D) ++ (⟨#[10]⟩ : ByteArray) = mk (Mg.pairL (t, k) ++ [10]) by
            unfold Mg.pairL
            rw [hE, hDD]
            apply by_inj
            rw [by_append, by_append, by_append, by_mk]
            simp [by_])
          have HE := hid hE
          have HDD := hid hDD
          obtain ⟨N2, hN2⟩ : ∃ N, (Mg.pre2 rs ps j2).length = N := ⟨_, rfl⟩
          rw [hN2] at HO hlen2
          have HO' := HO
          have HN2 := hid hN2
          have Y3 := hid (Bx2.new wr 45 (.string t) (.string k))
          have B3 := hid (HB.out.alloc HB.out.size (.cells #[.string t, .string k] 45))
          have F3 := hid (own_below HO.out ((Below.refl _ wr).alloc (Nat.le_refl _) (.cells #[.string t, .string k] 45)))
          have N3 := hid (And.intro Y3.out.cell0 Y3.out.cell1)
          have hM4 := HB.out.size
          clear hc ht hk hE hDD hN2 hwl hwl2 HO hs1 hs2
          go_wp2_with fail
          obtain ⟨W, hW⟩ : ∃ W, wr.alloc (.cells #[.string t, .string k] 45) = W := ⟨_, rfl⟩
          rw [hW] at Y3 B3 F3 N3 ⊢
          obtain ⟨nb, hnb⟩ : ∃ nb, wr.heap.size = nb := ⟨_, rfl⟩
          rw [hnb] at Y3 N3 ⊢
          have hWs := hid (show w2.heap.size ≤ W.heap.size by rw [← hW]; simp; omega)
          have hne : Hid (∀ g, u4.ownBlock = some g → g ≠ nb) := hid (fun g hg e => by have := (HO'.out.lt g hg).2; omega)
          clear hW hnb q1 p1
          have n0 := N3.out.1
          have n1 := N3.out.2
          have V3 := fun (W' : World) (h : Below W.heap.size W W') => hid (And.intro (Y3.out.below h Y3.out.lt).cell0 (Y3.out.below h Y3.out.lt).cell1)
          go_region_held3 (fun w' => w'.cell? ⟨nb, 0, none⟩ = some (.string t) ∧ w'.cell? ⟨nb, 1, none⟩ = some (.string k)) (first | exact N6.out | exact N5.out | exact N4.out | exact N3.out | go_keep)
            (first | (go_at_call_of 16 (Value.string t); refine (writing_calls t _ (by omega)).mono ?_; rintro e w4 ⟨rfl, hb4⟩; have C4 := hid ((Below.refl W.heap.size W).drew.trans (hb4.mono (Nat.le_refl _))); have N4 := V3 w4 C4.out; rw [HE.out]; clear hb4) | (go_at_call_of 16 (Value.string k); refine (writing_calls k _ (by omega)).mono ?_; rintro e w5 ⟨rfl, hb5⟩; have C5 := hid (C4.out.trans (hb5.mono C4.out.size)); have N5 := V3 w5 C5.out; rw [HDD.out]; clear hb5) | (refine step_append_fl rfl _ _ 28 9 rfl i0 Tryd.underlying28 Tryd.underlying9 hi hz0 hz1 hz2 (by rfl) (.inl (own_below F3.out C5.out)) (((E ++ (⟨#[32]⟩ : ByteArray)) ++ D) ++ (⟨#[10]⟩ : ByteArray)) (by rfl) (by rw [HS3.out]; omega) (by rw [HS3.out]; unfold maxLen; omega) (by rw [HS3.out]; omega) (Nat.le_trans hWs.out C5.out.size) ?_; intro v6 w6 ho6 hg6; have N6 := hid (And.intro (hg6.cell N5.out.1 (fun e => hne.out _ e.symm rfl)) (hg6.cell N5.out.2 (fun e => hne.out _ e.symm rfl)))))
          have D6 := hid ((B3.out.trans (C5.out.mono hWs.out)).grown hg6 (Nat.le_trans hWs.out C5.out.size) (fun j hj => (HO'.out.lt j hj).1))
          have O6 := hid (show w6.ownsRow w2.heap.size 5 1 v6 (Mg.pre2 rs ps (j2 + 1)).length (Rk.bv (Mg.pre2 rs ps (j2 + 1))) by
            rw [HF.out, ← Rk.bv_append, List.length_append, HN2.out, ← mk_size (Mg.pairL (t, k) ++ [10]), ← Rk.bv_str (Mg.pairL (t, k) ++ [10]), ← HL.out]
            exact ho6)
          clear ho6 hg6 C4 C5 N3 N4 N5 N6 V3 n0 n1
          go_wp2_with fail
          go_roundg (m - (j2 + 1))
          case measure => omega
          case rel => exact ⟨j2 + 1, rfl, by omega, by go_num, O6, D6⟩
        · obtain rfl : j2 = m := by omega
          have k1 : ¬ (j2 : Int) < j2 := by omega
          have ho := HO.out
          rw [← hlp, Mg.pre2_all, Rk.bv_vals] at ho
          obtain ⟨a5, c5, rfl, hs5⟩ := Sl.own ho (St.any _).bd
          have S5 := hid hs5
          have B9 := hid (B2.out.trans (HB.out.mono B2.out.size))
          clear ho hs5 HO
          go_wp2_with fail
          go_ret2
          exact ⟨.inl ⟨HOK.out, a5, c5, rfl, S5.out⟩, B9.out⟩
end Go.Proofs.YtecbmonbeogdjaaDoor
