/-
  The walk of the reference's Write.
-/
import Derived.Test.YtecbmonbeogdjaaDoorMgE1
import Derived.Test.YtecbmonbeogdjaaDoorLotB
namespace Go.Proofs.YtecbmonbeogdjaaDoor
open Go.RowKit
open Go.Lib (decDigits itoa)
set_option linter.unusedVariables false

/-- What the reference's Write answers. -/
def RmOut (rs : Mg.Rows) (ps : Mg.Prs) (e : Ending) : Prop :=
  (Mg.Ok rs ps ∧ e = .returned (.tuple #[.string (mk (Mg.fileL rs ps)), .bool true])) ∨ (¬ Mg.Ok rs ps ∧ e = .returned (.tuple #[.string ⟨#[]⟩, .bool false]))
theorem rwS_calls (t : ByteArray) (w : World) (h : t.size ≤ 100000) :
    Calls Tryd.prog 19 #[.string t] w fun e w' => e = .returned (.string (Mg.wrS t)) ∧ Below w.heap.size w w' :=
  rwrite_calls t t.size (bytesF t) w h (St.any t)

set_option maxRecDepth 100000 in
set_option maxHeartbeats 3200000 in
theorem rmWrite_calls {w : World} {a ap : Option Addr} {n c m cp : Nat} {rs : Mg.Rows} {ps : Mg.Prs} (h1 : Rw w a n c rs) (h2 : Pw w ap m cp ps) (hn : n ≤ 100) (hm : m ≤ 100) :
    Calls Tryd.prog 9 #[.agg #[.slice a n c, .slice ap m cp]] w fun e w' => RmOut rs ps e ∧ Below w.heap.size w w' := by
  have hl := h1.len
  have hlp := h2.len
  have B0 := hid ((Below.refl w.heap.size w).alloc (Nat.le_refl _) (.cells #[.slice a n c, .slice ap m cp] 25))
  have X0 := hid (Bx2.new w 25 (.slice a n c) (.slice ap m cp))
  have H0 := hid (h1.below B0.out)
  have P0 := hid (h2.below B0.out)
  have hn' : ¬ (4096 : Int) < n := by omega
  have hm' : ¬ (16384 : Int) < m := by omega
  clear h1 h2
  go_enter Tryd.func9, Tryd.ntmps9
  go_wp2_with fail
  obtain ⟨W0, hW0⟩ : ∃ W0, w.alloc (.cells #[.slice a n c, .slice ap m cp] 25) = W0 := ⟨_, rfl⟩
  rw [hW0] at B0 X0 H0 P0 ⊢
  obtain ⟨R, hR⟩ : ∃ R, w.heap.size = R := ⟨_, rfl⟩
  rw [hR] at X0
  simp only [hR]
  clear hW0 hR
  go_loopg [4, 20] n (fun r v iv wr => ∃ (j : Nat) (X : ByteArray), r = n - j ∧ j ≤ n ∧ iv = .int .i64 j ∧ v = .string X ∧ Hid (X = mk (Mg.pre1 rs j)) ∧ Hid (Mg.All (rs.take j)) ∧ Hid (Below W0.heap.size W0 wr))
  case atStart => exact ⟨0, _, rfl, by omega, rfl, rfl, hid rfl, hid (fun x hx => by simp at hx), hid (Below.refl _ _)⟩
  case round =>
    obtain ⟨j, X, rfl, hj, rfl, rfl, HX, HAj, HB⟩ := hrel
    have hXs : X.size ≤ 6 + 137 * j := by
      rw [HX.out, mk_size]
      unfold Mg.pre1
      have := Mg.rows_len HAj.out
      rw [List.length_take] at this
      have h6 : (Mg.lv ++ [10]).length = 6 := rfl
      rw [List.length_append, h6]
      omega
    have X1 := hid (X0.out.below HB.out X0.out.lt)
    have B1 := hid (B0.out.trans (HB.out.mono B0.out.size))
    have x0 := X1.out.cell0
    have x1 := X1.out.cell1
    by_cases hlt : j < n
    · have k1 : (j : Int) < n := by omega
      have k0 : (0 : Int) ≤ j := by omega
      have e2 : IntKind.i64.wrap ((j : Int) + 1) = j + 1 := i64_in (by omega) (by omega)
      obtain ⟨b, off, rfl, hbl, hc⟩ := (H0.out.below HB.out).at' (by omega)
      obtain ⟨q1, p1⟩ := hc j hlt
      obtain ⟨t, ht⟩ : ∃ t, tat rs j = t := ⟨_, rfl⟩
      obtain ⟨k, hk⟩ : ∃ k, kat rs j = k := ⟨_, rfl⟩
      rw [ht] at q1
      rw [hk] at p1
      have HTK := hid (And.intro ht hk)
      have HF := hid (Mg.pre1_snoc (by omega) ht hk)
      have HTS := hid (Rk.take_snoc (by omega) ht hk)
      clear hc ht hk
      go_wp2_with fail
      refine (rmay_calls t k _).mono ?_
      rintro e w3 ⟨ho, hb3⟩
      have B3 := hid (B1.out.trans (hb3.mono B1.out.size))
      have D3 := hid (HB.out.trans (hb3.mono HB.out.size))
      have X3 := hid (X1.out.below hb3 X1.out.lt)
      have q3 : w3.cell? ⟨b, off + j * 2, none⟩ = some (.string t) := by rw [hb3.cell (p := ⟨b, off + j * 2, none⟩) hbl]; exact q1
      have p3 : w3.cell? ⟨b, off + j * 2 + 1, none⟩ = some (.int .i64 k) := by rw [hb3.cell (p := ⟨b, off + j * 2 + 1, none⟩) hbl]; exact p1
      have hb3s : b < w3.heap.size := Nat.lt_of_lt_of_le hbl hb3.size
      clear hb3 q1 p1 x0 x1
      rcases ho.of with ⟨rfl, h⟩ | ⟨rfl, h⟩
      · have HMy := hid (show Mg.MayR (t, k) from h)
        have hD : (itoa k).length ≤ 7 := (Ln.num_itoa h.2.2.1 h.2.2.2).1.2.1
        have hDs := mk_size (itoa k)
        have hwl := (Mg.wrS_len t).2
        have ht64 : t.size ≤ 64 := h.2.1
        have hk0 : 0 ≤ k := h.2.2.1
        have hk9 : k ≤ 9999999 := h.2.2.2
        obtain ⟨E, hE⟩ : ∃ E, Mg.wrS t = E := ⟨_, rfl⟩
        obtain ⟨D, hDD⟩ : ∃ D, mk (itoa k) = D := ⟨_, rfl⟩
        rw [hE] at hwl
        rw [hDD] at hDs
        have he : E.size ≤ 128 := by omega
        have hd : D.size ≤ 7 := by omega
        have z1 : ¬ 9223372036854775807 < X.size + E.size := by omega
        have y1 : (X ++ E).size = X.size + E.size := ByteArray.size_append
        have z2 : ¬ 9223372036854775807 < X.size + E.size + 1 := by omega
        have y2 : ((X ++ E) ++ (⟨#[32]⟩ : ByteArray)).size = X.size + E.size + 1 := by rw [ByteArray.size_append, y1]; rfl
        have z3 : ¬ 9223372036854775807 < X.size + E.size + 1 + D.size := by omega
        have y3 : (((X ++ E) ++ (⟨#[32]⟩ : ByteArray)) ++ D).size = X.size + E.size + 1 + D.size := by rw [ByteArray.size_append, y2]
        have z4 : ¬ 9223372036854775807 < X.size + E.size + 1 + D.size + 1 := by omega
        have HL := hid (show (((X ++ E) ++ (⟨#[32]⟩ : ByteArray)) ++ D) ++ (⟨#[10]⟩ : ByteArray) = mk (Mg.pre1 rs (j + 1)) by
          rw [HF.out, Mg.rowL, hE, ← hDD, HX.out]
          apply by_inj
          rw [by_append, by_append, by_append, by_append, by_mk, by_mk, by_mk]
          simp [by_])
        have HAl := hid (show Mg.All (rs.take (j + 1)) by
          rw [HTS.out]
          intro x hx
          rcases List.mem_append.1 hx with hx | hx
          · exact HAj.out x hx
          · obtain rfl : x = (t, k) := by simpa using hx
            exact h)
        have HE := hid hE
        have HDD := hid hDD
        have N3 := hid (And.intro X3.out.cell0 (And.intro q3 p3))
        have V3 := fun (W' : World) (h : Below w3.heap.size w3 W') => hid (show W'.cell? ⟨R, 0, none⟩ = some (.slice (some ⟨b, off, none⟩) n c) ∧ W'.cell? ⟨b, off + j * 2, none⟩ = some (.string t) ∧ W'.cell? ⟨b, off + j * 2 + 1, none⟩ = some (.int .i64 k) from ⟨(X3.out.below h X3.out.lt).cell0, by rw [h.cell (p := ⟨b, off + j * 2, none⟩) hb3s]; exact q3, by rw [h.cell (p := ⟨b, off + j * 2 + 1, none⟩) hb3s]; exact p3⟩)
        have x0 := X3.out.cell0
        clear ho h hD hDs hE hDD hwl
        go_wp2_with fail
        go_region_held3 (fun w' => w'.cell? ⟨R, 0, none⟩ = some (.slice (some ⟨b, off, none⟩) n c) ∧ w'.cell? ⟨b, off + j * 2, none⟩ = some (.string t) ∧ w'.cell? ⟨b, off + j * 2 + 1, none⟩ = some (.int .i64 k)) (first | exact N5.out | exact N4.out | exact N3.out | go_keep)
          (first | (go_at_call 19; refine (rwS_calls t _ (by omega)).mono ?_; rintro e w4 ⟨rfl, hb4⟩; have C4 := hid ((Below.refl w3.heap.size w3).drew.trans (hb4.mono (Nat.le_refl _))); have N4 := V3 w4 C4.out; rw [HE.out]; clear hb4) | (go_at_call 20; refine (rDigits_calls k (by omega) (by omega) _).mono ?_; rintro e w5 ⟨rfl, hb5⟩; have C5 := hid (show Below w3.heap.size w3 w5 by rw [hb5]; exact C4.out); have N5 := V3 w5 C5.out; rw [HDD.out]; clear hb5))
        have D5 := hid (D3.out.trans (C5.out.mono D3.out.size))
        clear N3 N4 N5 V3 x0 q3 p3
        go_wp2_with fail
        go_roundg (n - (j + 1))
        case measure => omega
        case rel => exact ⟨j + 1, _, rfl, by omega, by go_num, rfl, HL, HAl, D5⟩
      · have HN := hid (show ¬ Mg.Ok rs ps from fun hh => h (by
          have := (Mg.all_iff hl).1 hh.1 j hlt
          rw [HTK.out.1, HTK.out.2] at this
          exact this))
        clear ho h
        go_wp2_with fail
        go_ret2
        exact ⟨.inr ⟨HN.out, rfl⟩, B3.out⟩
    · obtain rfl : j = n := by omega
      have k1 : ¬ (j : Int) < j := by omega
      have HA := hid (show Mg.All rs by have := HAj.out; rwa [List.take_of_length_le (by omega)] at this)
      have z1 : ¬ 9223372036854775807 < X.size + 7 := by omega
      have HX2 := hid (show X ++ (⟨#[109, 101, 114, 103, 101, 115, 10]⟩ : ByteArray) = mk (Mg.pre2 rs ps 0) by
        rw [Mg.pre2_zero, hl, HX.out]
        apply by_inj
        rw [by_append, by_mk, by_mk]
        rfl)
      clear x0
      go_wp2_with fail
      go_loopg [4, 55] m (fun r v iv wr2 => ∃ (j2 : Nat) (X2 : ByteArray), r = m - j2 ∧ j2 ≤ m ∧ iv = .int .i64 j2 ∧ v = .string X2 ∧ Hid (X2 = mk (Mg.pre2 rs ps j2)) ∧ Hid (Mg.AllP (ps.take j2)) ∧ Hid (Below W0.heap.size W0 wr2))
      case atStart => exact ⟨0, _, rfl, by omega, rfl, rfl, HX2, hid (fun x hx => by simp at hx), HB⟩
      case round =>
        obtain ⟨j2, X2, rfl, hj2, rfl, rfl, HX2', HPj, HB2⟩ := hrel
        have hXs2 : X2.size ≤ 13 + 137 * rs.length + 258 * j2 := by
          rw [HX2'.out, mk_size]
          unfold Mg.pre2
          have h1 := Mg.rows_len HA.out
          have h2 := Mg.pairs_len HPj.out
          rw [List.length_take] at h2
          have h6 : (Mg.lv ++ [10]).length = 6 := rfl
          have h7 : (Mg.lm ++ [10]).length = 7 := rfl
          rw [List.length_append, List.length_append, List.length_append, h6, h7]
          omega
        have X3 := hid (X0.out.below HB2.out X0.out.lt)
        have B3 := hid (B0.out.trans (HB2.out.mono B0.out.size))
        clear HX HX2 HAj HB X1 B1 x1 k1 z1 hXs
        by_cases hlt : j2 < m
        · have k1 : (j2 : Int) < m := by omega
          have k0 : (0 : Int) ≤ j2 := by omega
          have e2 : IntKind.i64.wrap ((j2 : Int) + 1) = j2 + 1 := i64_in (by omega) (by omega)
          obtain ⟨b, off, rfl, hbl, hc⟩ := (P0.out.below HB2.out).at' (by omega)
          obtain ⟨q1, p1⟩ := hc j2 hlt
          obtain ⟨t, ht⟩ : ∃ t, lat ps j2 = t := ⟨_, rfl⟩
          obtain ⟨k, hk⟩ : ∃ k, gat ps j2 = k := ⟨_, rfl⟩
          rw [ht] at q1
          rw [hk] at p1
          have HTK := hid (And.intro ht hk)
          have HF := hid (Mg.pre2_snoc (rs := rs) (by omega) ht hk)
          have HTS := hid (Mg.ptake_snoc (by omega) ht hk)
          have x1 := X3.out.cell1
          clear hc ht hk
          by_cases hT : TokOk t
          · by_cases hK : TokOk k
            · have HMy := hid (show Mg.MayP (t, k) from ⟨hT, hK⟩)
              go_wp2_with (first | (go_at_call_of 21 (Value.string t); refine (part_calls t _).mono ?_; rintro e w3 ⟨ho, rfl⟩; obtain ⟨rfl, _⟩ : e = .returned (.bool true) ∧ True := (by rcases ho.of with ⟨h, _⟩ | ⟨_, h⟩; exact ⟨h, trivial⟩; exact absurd hT h); clear ho) | (go_at_call_of 21 (Value.string k); refine (part_calls k _).mono ?_; rintro e w3 ⟨ho, rfl⟩; obtain ⟨rfl, _⟩ : e = .returned (.bool true) ∧ True := (by rcases ho.of with ⟨h, _⟩ | ⟨_, h⟩; exact ⟨h, trivial⟩; exact absurd hK h); clear ho))
              have hwl := (Mg.wrS_len t).2
              have hwl2 := (Mg.wrS_len k).2
              have ht64 : t.size ≤ 64 := hT.2
              have hk64 : k.size ≤ 64 := hK.2
              obtain ⟨E, hE⟩ : ∃ E, Mg.wrS t = E := ⟨_, rfl⟩
              obtain ⟨D, hDD⟩ : ∃ D, Mg.wrS k = D := ⟨_, rfl⟩
              rw [hE] at hwl
              rw [hDD] at hwl2
              have he : E.size ≤ 128 := by omega
              have hd : D.size ≤ 128 := by omega
              have z1 : ¬ 9223372036854775807 < X2.size + E.size := by omega
              have y1 : (X2 ++ E).size = X2.size + E.size := ByteArray.size_append
              have z2 : ¬ 9223372036854775807 < X2.size + E.size + 1 := by omega
              have y2 : ((X2 ++ E) ++ (⟨#[32]⟩ : ByteArray)).size = X2.size + E.size + 1 := by rw [ByteArray.size_append, y1]; rfl
              have z3 : ¬ 9223372036854775807 < X2.size + E.size + 1 + D.size := by omega
              have y3 : (((X2 ++ E) ++ (⟨#[32]⟩ : ByteArray)) ++ D).size = X2.size + E.size + 1 + D.size := by rw [ByteArray.size_append, y2]
              have z4 : ¬ 9223372036854775807 < X2.size + E.size + 1 + D.size + 1 := by omega
              have HL := hid (show (((X2 ++ E) ++ (⟨#[32]⟩ : ByteArray)) ++ D) ++ (⟨#[10]⟩ : ByteArray) = mk (Mg.pre2 rs ps (j2 + 1)) by
                rw [HF.out, Mg.pairL, hE, hDD, HX2'.out]
                apply by_inj
                rw [by_append, by_append, by_append, by_append, by_mk, by_mk]
                simp [by_])
              have HAl := hid (show Mg.AllP (ps.take (j2 + 1)) by
                rw [HTS.out]
                intro x hx
                rcases List.mem_append.1 hx with hx | hx
                · exact HPj.out x hx
                · obtain rfl : x = (t, k) := by simpa using hx
                  exact HMy.out)
              have HE := hid hE
              have HDD := hid hDD
              have N3 := hid (And.intro X3.out.cell1 (And.intro q1 p1))
              have V3 := fun (W' : World) (h : Below w3.heap.size w3 W') => hid (show W'.cell? ⟨R, 1, none⟩ = some (.slice (some ⟨b, off, none⟩) m cp) ∧ W'.cell? ⟨b, off + j2 * 2, none⟩ = some (.string t) ∧ W'.cell? ⟨b, off + j2 * 2 + 1, none⟩ = some (.string k) from ⟨(X3.out.below h X3.out.lt).cell1, by rw [h.cell (p := ⟨b, off + j2 * 2, none⟩) hbl]; exact q1, by rw [h.cell (p := ⟨b, off + j2 * 2 + 1, none⟩) hbl]; exact p1⟩)
              clear hE hDD hwl hwl2 hT hK
              go_region_held3 (fun w' => w'.cell? ⟨R, 1, none⟩ = some (.slice (some ⟨b, off, none⟩) m cp) ∧ w'.cell? ⟨b, off + j2 * 2, none⟩ = some (.string t) ∧ w'.cell? ⟨b, off + j2 * 2 + 1, none⟩ = some (.string k)) (first | exact N5.out | exact N4.out | exact N3.out | go_keep)
                (first | (go_at_call_of 19 (Value.string t); refine (rwS_calls t _ (by omega)).mono ?_; rintro e w4 ⟨rfl, hb4⟩; have C4 := hid ((Below.refl w3.heap.size w3).drew.trans (hb4.mono (Nat.le_refl _))); have N4 := V3 w4 C4.out; rw [HE.out]; clear hb4) | (go_at_call_of 19 (Value.string k); refine (rwS_calls k _ (by omega)).mono ?_; rintro e w5 ⟨rfl, hb5⟩; have C5 := hid (C4.out.trans (hb5.mono C4.out.size)); have N5 := V3 w5 C5.out; rw [HDD.out]; clear hb5))
              have D5 := hid (HB2.out.trans (C5.out.mono HB2.out.size))
              clear N3 N4 N5 V3
              go_wp2_with fail
              go_roundg (m - (j2 + 1))
              case measure => omega
              case rel => exact ⟨j2 + 1, _, rfl, by omega, by go_num, rfl, HL, HAl, D5⟩
            · have HN := hid (show ¬ Mg.Ok rs ps from fun hh => hK (by
                have := (Mg.allP_iff hlp).1 hh.2.1 j2 hlt
                rw [HTK.out.1, HTK.out.2] at this
                exact this.2))
              go_wp2_with (first | (go_at_call_of 21 (Value.string t); refine (part_calls t _).mono ?_; rintro e w3 ⟨ho, rfl⟩; obtain ⟨rfl, _⟩ : e = .returned (.bool true) ∧ True := (by rcases ho.of with ⟨h, _⟩ | ⟨_, h⟩; exact ⟨h, trivial⟩; exact absurd hT h); clear ho) | (go_at_call_of 21 (Value.string k); refine (part_calls k _).mono ?_; rintro e w3 ⟨ho, rfl⟩; obtain ⟨rfl, _⟩ : e = .returned (.bool false) ∧ True := (by rcases ho.of with ⟨_, h⟩ | ⟨h, _⟩; exact absurd h hK; exact ⟨h, trivial⟩); clear ho))
              go_ret2
              exact ⟨.inr ⟨HN.out, rfl⟩, B3.out⟩
          · have HN := hid (show ¬ Mg.Ok rs ps from fun hh => hT (by
              have := (Mg.allP_iff hlp).1 hh.2.1 j2 hlt
              rw [HTK.out.1, HTK.out.2] at this
              exact this.1))
            go_wp2_with (first | (go_at_call_of 21 (Value.string t); refine (part_calls t _).mono ?_; rintro e w3 ⟨ho, rfl⟩; obtain ⟨rfl, _⟩ : e = .returned (.bool false) ∧ True := (by rcases ho.of with ⟨_, h⟩ | ⟨h, _⟩; exact absurd h hT; exact ⟨h, trivial⟩); clear ho))
            go_ret2
            exact ⟨.inr ⟨HN.out, rfl⟩, B3.out⟩
        · obtain rfl : j2 = m := by omega
          have k1 : ¬ (j2 : Int) < j2 := by omega
          have HOK := hid (show Mg.Ok rs ps from ⟨HA.out, by have := HPj.out; rwa [List.take_of_length_le (by omega)] at this, by omega, by omega⟩)
          have HX3 := hid (show X2 = mk (Mg.fileL rs ps) by rw [HX2'.out, ← hlp, Mg.pre2_all])
          go_wp2_with fail
          go_ret2
          exact ⟨.inl ⟨HOK.out, by rw [← HX3.out]; rfl⟩, B3.out⟩
end Go.Proofs.YtecbmonbeogdjaaDoor
