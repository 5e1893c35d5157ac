/-
  Walks of the reference's Find, Young and Put.
-/
import Derived.Test.YtbcanfelfdalbaaChecked
import Derived.Test.YtbcanfelfdalbaaLotT
import Derived.Deep.QuietTactic
import Derived.BigQuiet
import Derived.WalkKit
import Derived.Deep.LoopGhost
namespace Go.Proofs.Ytbcanfelfdalbaa
open Go.RowKit
set_option linter.unusedVariables false
theorem Try.infoE15 : (Try.prog.info? 35).map (fun i => (i.zero, i.size, i.bytes)) = some (some (.agg #[.string ⟨#[]⟩, .slice none 0 0]), 2, 40) := by kernel_rfl
theorem text_ne {s t : ByteArray} (h : s ≠ t) : (s.toList == t.toList) = false := by
  rw [beq_eq_false_iff_ne]
  exact fun e => h (by rw [by_toList, by_toList] at e; exact by_inj e)
/-- What Find answers. -/
def CfOut (es : List Et) (s : ByteArray) (e : Ending) : Prop := (∃ i : Nat, i < es.length ∧ xk es i = s ∧ e = .returned (.int .i64 (i : Int))) ∨ ((∀ i, i < es.length → xk es i ≠ s) ∧ e = .returned (.int .i64 (-1)))
set_option maxRecDepth 100000 in
set_option maxHeartbeats 3200000 in
theorem cfind_calls {w : World} {a : Option Addr} {n c : Nat} {es : List Et} (E : Xw w a n c es) (s : ByteArray) (hn : n ≤ 1000000) :
    Calls Try.prog 14 #[.slice a n c, .string s] w fun e w' => CfOut es s e ∧ w' = w := by
  have hl := E.len
  have EW := hid E
  clear E
  go_enter Try.func14, Try.ntmps14
  go_wp2_with fail
  go_loopg [8] n (fun r iv wr => ∃ j : Nat, r = n - j ∧ iv = .int .i64 (j : Int) ∧ j ≤ n ∧ Hid (∀ i, i < j → xk es i ≠ s) ∧ w = wr)
  case atStart => exact ⟨0, rfl, rfl, by omega, hid (fun i hi => by omega), rfl⟩
  case round =>
    obtain ⟨j, rfl, rfl, hj, HA, rfl⟩ := hrel
    by_cases hlt : j < n
    · have l0 : (0 : Int) ≤ j := by omega
      have l1 : (j : Int) < n := by omega
      have l2 : IntKind.i64.wrap ((j : Int) + 1) = j + 1 := i64_in (by omega) (by omega)
      obtain ⟨b, off, rfl, hbl, hc⟩ := EW.out.at' (by omega)
      have p0 := (hc j hlt).1
      obtain ⟨x, hx⟩ : ∃ x, xk es j = x := ⟨_, rfl⟩
      rw [hx] at p0
      have HX := hid hx
      clear hc hx
      by_cases hs : x = s
      · subst hs
        go_wp2_with fail
        go_ret
        exact ⟨.inl ⟨j, by omega, HX.out, rfl⟩, rfl⟩
      · have e1 := text_ne hs
        have HN := hid (show ∀ i, i < j + 1 → xk es i ≠ s from fun i hi => by
          by_cases h : i < j
          · exact HA.out i h
          · obtain rfl : i = j := by omega
            rw [HX.out]; exact hs)
        go_wp2_with fail
        go_roundg (n - (j + 1))
        case measure => omega
        case rel => exact ⟨j + 1, rfl, by go_num, by omega, HN, rfl⟩
    · have l1 : ¬ (j : Int) < n := by omega
      have HF := hid (show ∀ i, i < es.length → xk es i ≠ s from fun i hi => HA.out i (by omega))
      go_wp2_with fail
      go_ret
      exact ⟨.inr ⟨HF.out, rfl⟩, rfl⟩
set_option maxRecDepth 100000 in
set_option maxHeartbeats 6400000 in
theorem cyoung_calls {w : World} {a ra : Option Addr} {n c rn rc : Nat} {es : List Et} (E : Xw w a n c es) (k : ByteArray) (rw' : Pr.Row) (hn : n ≤ 100000) :
    Calls Try.prog 16 #[.slice a n c, .agg #[.string k, .slice ra rn rc]] w fun e w' => (∃ v, e = .returned v ∧ w'.ownsRow w.heap.size 35 2 v (xyoung es (k, (ra, rn, rc), rw')).length (xv (xyoung es (k, (ra, rn, rc), rw')))) ∧ Below w.heap.size w w' := by
  obtain ⟨i0, hi, hz0, hz1, hz2⟩ := info_parts Try.infoE15
  have hl := E.len
  have EW := hid E
  have b0 := (Below.refl w.heap.size w).alloc (Nat.le_refl _) (.cells #[.string k, .slice ra rn rc] 35)
  have x0 := Bx2.new w 35 (.string k) (.slice ra rn rc)
  have B0 := hid (b0.alloc b0.size (.cells #[] 35))
  have X0 := hid (x0.alloc (.cells #[] 35))
  have O0 := hid (show ((w.alloc (.cells #[.string k, .slice ra rn rc] 35)).alloc (.cells #[] 35)).ownsRow (w.heap.size + 1) 35 2 (.slice (some ⟨w.heap.size + 1, 0, none⟩) 0 0) (xwo (es.take 0) k).length (xv (xwo (es.take 0) k)) from own_empty (w.heap.size + 1) (by simp) (by simp))
  clear E b0 x0
  go_enter Try.func16, Try.ntmps16
  go_wp2_with fail
  go_loopg [5, 10] n (fun r rv iv wr => ∃ (j : Nat) (v : Value), r = n - j ∧ v = rv ∧ iv = .int .i64 (j : Int) ∧ j ≤ n ∧ Hid (wr.ownsRow (w.heap.size + 1) 35 2 v (xwo (es.take j) k).length (xv (xwo (es.take j) k))) ∧ Hid (Bx2 wr w.heap.size 35 (.string k) (.slice ra rn rc)) ∧ Hid (Below w.heap.size w wr))
  case atStart => exact ⟨0, _, rfl, rfl, rfl, by omega, O0, X0, B0⟩
  case round =>
    clear O0 X0 B0
    obtain ⟨j, v, rfl, rfl, rfl, hj, HO, HX, HB⟩ := hrel
    have hwl := xwo_len (es.take j) k
    rw [List.length_take] at hwl
    by_cases hlt : j < n
    · have l0 : (0 : Int) ≤ j := by omega
      have l1 : (j : Int) < n := by omega
      have l2 : IntKind.i64.wrap ((j : Int) + 1) = j + 1 := i64_in (by omega) (by omega)
      have ER := hid (EW.out.below HB.out)
      obtain ⟨b, off, rfl, hbl, hc⟩ := ER.out.at' (by omega)
      obtain ⟨p0, p1⟩ := hc j hlt
      have HNx := hid (xwo_next (es := es) (k := k) (j := j) (by omega))
      have c0 := HX.out.cell0
      obtain ⟨x, hx⟩ : ∃ x, xk es j = x := ⟨_, rfl⟩
      obtain ⟨⟨sa, sn, sc⟩, hs⟩ : ∃ s, xs_ es j = s := ⟨_, rfl⟩
      obtain ⟨xr', hxr⟩ : ∃ s, xr es j = s := ⟨_, rfl⟩
      rw [hx] at p0
      rw [hs] at p1
      rw [hx, hs, hxr] at HNx
      have P1 := hid p1
      clear hc hx hs hxr p1
      go_wp2_with fail
      by_cases he : x = k
      · subst he
        go_quiet (fail)
        have O2 := hid (own_below HO.out (below_drewN (Below.refl _ _) nq))
        have X2 := hid (HX.out.below (below_drewN (Below.refl _ _) nq) HX.out.lt)
        have B2 := hid (below_drewN HB.out nq)
        have HE := hid (show xwo (es.take (j + 1)) x = xwo (es.take j) x from by rw [HNx.out, if_pos rfl, List.append_nil])
        go_wp2_with fail
        go_roundg (n - (j + 1))
        case measure => omega
        case rel => exact ⟨j + 1, v, rfl, rfl, by go_num, by omega, hid (by rw [HE.out]; exact O2.out), X2, B2⟩
      · have e1 := text_ne he
        have HE := hid (show xwo (es.take (j + 1)) k = xwo (es.take j) k ++ [(x, (sa, sn, sc), xr')] from by rw [HNx.out, if_neg he])
        go_quiet (fail)
        have bq := below_drewN (Below.refl wr.heap.size wr) nq
        have O2 := hid (own_below HO.out bq)
        have X2 := hid (HX.out.below bq HX.out.lt)
        have B2 := hid (below_drewN HB.out nq)
        have q0 := (bq.cell (p := ⟨b, off + j * 2, none⟩) hbl).trans p0
        have q1 := (bq.cell (p := ⟨b, off + j * 2 + 1, none⟩) hbl).trans P1.out
        obtain ⟨W, hW⟩ : ∃ W, wr.drewN nq = W := ⟨_, rfl⟩
        rw [hW] at O2 X2 B2 q0 q1 ⊢
        have sz := B2.out.size
        unfold sv at q1
        simp only at q1
        clear hW bq p0 P1 c0 e1
        go_wp2_with (at_builtin; refine wpList_append_src rfl _ _ 28 rfl (w.heap.size + 1) 35 i0 _ 2 40 Try.underlying28 hi hz0 hz1 hz2 rfl (by decide) v (xwo (es.take j) k).length (xv (xwo (es.take j) k)) rfl (O2.out.alloc _) (some ⟨W.heap.size, 0, none⟩) 1 1 [.string x, .slice sa sn sc] rfl (Src.new #[.string x, .slice sa sn sc] 35 W.heap.size rfl rfl (fun u hu => by simp at hu; rcases hu with rfl | rfl <;> rfl)) (by unfold maxLen; omega) (by omega) (by have := X2.out.lt; simp; omega) ?_; intro v4 w4 ho4 hg4 hb4; have O4 := hid ho4; have G4 := hid hg4; clear ho4 hg4 hb4)
        have O5 := hid (show w4.ownsRow (w.heap.size + 1) 35 2 v4 (xwo (es.take (j + 1)) k).length (xv (xwo (es.take (j + 1)) k)) from by rw [HE.out, List.length_append, ← xv_append]; exact O4.out)
        have X5 := hid ((X2.out.alloc (.cells #[.string x, .slice sa sn sc] 35)).kept G4.out (fun e => by have := (O2.out.lt _ e.symm).1; omega))
        have B5 := hid ((B2.out.alloc sz (.cells #[.string x, .slice sa sn sc] 35)).grown G4.out (by simp; omega) (fun k e => by have := (O2.out.lt k e).1; omega))
        clear O4 G4
        go_roundg (n - (j + 1))
        case measure => omega
        case rel => exact ⟨j + 1, v4, rfl, rfl, by go_num, by omega, O5, X5, B5⟩
    · have l1 : ¬ (j : Int) < n := by omega
      have HI := hid (show wr.ownsRow (w.heap.size + 1) 35 2 v (xwo es k).length (xv (xwo es k)) from by
        have h := HO.out
        rw [List.take_of_length_le (by omega)] at h
        exact h)
      have hwl2 := xwo_len es k
      have c0 := HX.out.cell0
      have c1 := HX.out.cell1
      have sz := HB.out.size
      have hxl := HX.out.lt
      go_wp2_with (at_builtin; refine wpList_append_src rfl _ _ 28 rfl (w.heap.size + 1) 35 i0 _ 2 40 Try.underlying28 hi hz0 hz1 hz2 rfl (by decide) v (xwo es k).length (xv (xwo es k)) rfl (HI.out.alloc _) (some ⟨wr.heap.size, 0, none⟩) 1 1 [.string k, .slice ra rn rc] rfl (Src.new #[.string k, .slice ra rn rc] 35 wr.heap.size rfl rfl (fun u hu => by simp at hu; rcases hu with rfl | rfl <;> rfl)) (by unfold maxLen; omega) (by omega) (by simp; omega) ?_; intro v4 w4 ho4 hg4 hb4; have O4 := hid ho4; have G4 := hid hg4; clear ho4 hg4 hb4)
      have O5 := hid (show w4.ownsRow w.heap.size 35 2 v4 (xyoung es (k, (ra, rn, rc), rw')).length (xv (xyoung es (k, (ra, rn, rc), rw'))) from by
        unfold xyoung
        rw [List.length_append, ← xv_append]
        exact O4.out.mono (Nat.le_succ _))
      have B5 := hid ((HB.out.alloc sz (.cells #[.string k, .slice ra rn rc] 35)).grown G4.out (by simp; omega) (fun k e => by have := (HI.out.lt k e).1; omega))
      clear O4 G4 HO HI
      go_ret
      exact ⟨⟨_, rfl, O5.out⟩, B5.out⟩
/-- A slice of rows that lies in new memory. -/
def Xn (M : Nat) (w : World) (a : Option Addr) (n c : Nat) (es : List Et) : Prop := Xw w a n c es ∧ ∀ p, a = some p → M ≤ p.block ∧ p.block < w.heap.size
theorem xn_own {w : World} {base : Nat} {e : TypeId} {v : Value} {n : Nat} {es : List Et} (h : w.ownsRow base e 2 v n (xv es)) : ∃ a c, v = .slice a n c ∧ Xn base w a n c es := by
  obtain ⟨a, c, rfl, hx⟩ := Xw.ofOwn h
  exact ⟨a, c, rfl, hx, fun p hp => by subst hp; exact h.lt p.block rfl⟩
theorem Xn.tail {M : Nat} {w : World} {b off n c : Nat} {es : List Et} (h : Xn M w (some ⟨b, off, none⟩) n c es) (hn : 0 < n) : Xn M w (some ⟨b, off + 2, none⟩) (n - 1) (c - 1) (es.drop 1) := by
  obtain ⟨h1, h2⟩ := h
  have hl := h1.len
  have hle := h1.le
  have hmx := h1.mx
  refine ⟨⟨by rw [List.length_drop]; omega, by omega, by omega, fun e => absurd e (by simp), fun h0 => ?_⟩, fun p hp => ?_⟩
  · obtain ⟨b', off', e, hlt, hc⟩ := h1.at' hn
    cases e
    refine ⟨b, off + 2, rfl, hlt, fun i hi => ?_⟩
    obtain ⟨q0, q1⟩ := hc (i + 1) (by omega)
    have e1 : (es.drop 1).getD i (⟨#[]⟩, (none, 0, 0), []) = es.getD (i + 1) (⟨#[]⟩, (none, 0, 0), []) := by
      rw [List.getD_eq_getElem?_getD, List.getD_eq_getElem?_getD, List.getElem?_drop, Nat.add_comm]
    have e2 : off + 2 + i * 2 = off + (i + 1) * 2 := by omega
    unfold xk at q0
    unfold xs_ at q1
    unfold xk xs_
    rw [e1, e2]
    exact ⟨q0, q1⟩
  · cases hp
    exact h2 ⟨b, off, none⟩ rfl
theorem Xn.gone {M : Nat} {w : World} {a : Option Addr} {es : List Et} (h : Xn M w a 1 1 es) : Xn M w a 0 0 (es.drop 1) := by
  have hl := h.1.len
  refine ⟨⟨by rw [List.length_drop]; omega, Nat.le_refl _, Nat.zero_le _, fun e => ⟨rfl, rfl⟩, fun h0 => by omega⟩, h.2⟩
set_option maxRecDepth 100000 in
set_option maxHeartbeats 6400000 in
theorem cput_calls {w : World} {a ra : Option Addr} {n c rn rc : Nat} {es : List Et} (E : Xw w a n c es) (k : ByteArray) (rw' : Pr.Row) (room : Nat) (hn : n ≤ 100000) :
    Calls Try.prog 12 #[.slice a n c, .int .i64 (room : Int), .agg #[.string k, .slice ra rn rc]] w fun e w' => (∃ a2 n2 c2, e = .returned (.slice a2 n2 c2) ∧ Xn w.heap.size w' a2 n2 c2 (xput es room (k, (ra, rn, rc), rw'))) ∧ Below w.heap.size w w' := by
  have b0 := (Below.refl w.heap.size w).alloc (Nat.le_refl _) (.cells #[.string k, .slice ra rn rc] 35)
  have B0 := hid b0
  have X0 := hid (Bx2.new w 35 (.string k) (.slice ra rn rc))
  have E0 := hid (E.below b0)
  have c0 := X0.out.cell0
  have c1 := X0.out.cell1
  have hz : w.heap.size ≤ (w.alloc (.cells #[.string k, .slice ra rn rc] 35)).heap.size := by simp
  have HZ := hid hz
  clear b0 E hz
  go_enter Try.func12, Try.ntmps12
  go_wp2_with fail
  refine (cyoung_calls E0.out k rw' hn).mono ?_
  rintro e w2 ⟨⟨v, rfl, o2⟩, b2⟩
  have B2 := hid (B0.out.trans (b2.mono B0.out.size))
  obtain ⟨m, hm⟩ : ∃ m, (xyoung es (k, (ra, rn, rc), rw')).length = m := ⟨_, rfl⟩
  have HP := hid (show xput es room (k, (ra, rn, rc), rw') = if room < m then (xyoung es (k, (ra, rn, rc), rw')).drop 1 else xyoung es (k, (ra, rn, rc), rw') from by rw [← hm]; rfl)
  have o3 := o2.mono HZ.out
  rw [hm] at o3
  obtain ⟨a3, c3, rfl, x3⟩ := xn_own o3
  have X3 := hid x3
  have hle := x3.1.le
  clear o2 o3 b2 hm x3 c0 c1 X0 E0 B0
  by_cases hr : room < m
  · have l1 : (room : Int) < m := by omega
    have HPE := hid (show xput es room (k, (ra, rn, rc), rw') = (xyoung es (k, (ra, rn, rc), rw')).drop 1 from by rw [HP.out, if_pos hr])
    obtain ⟨b, off, rfl, hbl, _⟩ := X3.out.1.at' (by omega)
    have l2 : (1 : Int) ≤ m := by omega
    have l3 : (m : Int) ≤ c3 := by omega
    by_cases h1 : c3 = 1
    · subst h1
      obtain rfl : m = 1 := by omega
      have XG := hid X3.out.gone
      go_wp2_with fail
      go_ret
      exact ⟨⟨_, _, _, rfl, by rw [HPE.out]; exact XG.out⟩, B2.out⟩
    · have XG := hid (X3.out.tail (by omega))
      go_wp2_with fail
      go_ret
      exact ⟨⟨_, _, _, rfl, by rw [HPE.out]; exact XG.out⟩, B2.out⟩
  · have l1 : ¬ (room : Int) < m := by omega
    have HPE := hid (show xput es room (k, (ra, rn, rc), rw') = xyoung es (k, (ra, rn, rc), rw') from by rw [HP.out, if_neg hr])
    go_wp2_with fail
    go_ret
    exact ⟨⟨_, _, _, rfl, by rw [HPE.out]; exact X3.out⟩, B2.out⟩
end Go.Proofs.Ytbcanfelfdalbaa
