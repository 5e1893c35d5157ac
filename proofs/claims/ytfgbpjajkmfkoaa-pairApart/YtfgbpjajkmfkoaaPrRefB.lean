/-
  Walks of the reference's Best, Step and Run.
-/
import Derived.Test.YtfgbpjajkmfkoaaPrStep
import Derived.Test.YtfgbpjajkmfkoaaPrRef
namespace Go.Proofs.Ytfgbpjajkmfkoaa
open Go.RowKit Go.Maps
open Pr (it)
set_option linter.unusedVariables false

namespace Pr
def pz (q : Option (Nat × Nat)) : Int := match q with | none => -1 | some x => x.1
def kz (q : Option (Nat × Nat)) : Int := match q with | none => -1 | some x => x.2
/-- One place more, by places. -/
theorem bst_waysR (ms : List Mg4) (xs : Row) (j : Nat) :
    (fz ms (it xs j) (it xs (j + 1)) = -1 ∧ bst ms xs (j + 1) = bst ms xs j) ∨
    (∃ k : Nat, fz ms (it xs j) (it xs (j + 1)) = k ∧ k < ms.length ∧ kz (bst ms xs j) = -1 ∧ pz (bst ms xs (j + 1)) = j ∧ kz (bst ms xs (j + 1)) = k) ∨
    (∃ k b : Nat, fz ms (it xs j) (it xs (j + 1)) = k ∧ k < ms.length ∧ kz (bst ms xs j) = b ∧ b < ms.length ∧ ord ms k < ord ms b ∧ pz (bst ms xs (j + 1)) = j ∧ kz (bst ms xs (j + 1)) = k) ∨
    (∃ k b : Nat, fz ms (it xs j) (it xs (j + 1)) = k ∧ k < ms.length ∧ kz (bst ms xs j) = b ∧ b < ms.length ∧ ¬ ord ms k < ord ms b ∧ bst ms xs (j + 1) = bst ms xs j) := by
  unfold fz
  cases hf : fnd ms (it xs j) (it xs (j + 1)) with
  | none => exact .inl ⟨rfl, bst_none' hf⟩
  | some k =>
    right
    have hk := (fnd_some hf).1
    cases hb : bst ms xs j with
    | none =>
      rw [bst_new hf hb]
      exact .inl ⟨k, rfl, hk, rfl, rfl, rfl⟩
    | some q =>
      obtain ⟨p, b⟩ := q
      have hbl := (fnd_some (bst_some hb).fd).1
      by_cases hl : ord ms k < ord ms b
      · rw [bst_less hf hb hl]
        exact .inr (.inl ⟨k, b, rfl, hk, rfl, hbl, hl, rfl, rfl⟩)
      · rw [bst_keep hf hb hl]
        exact .inr (.inr ⟨k, b, rfl, hk, rfl, hbl, hl, rfl⟩)
end Pr

set_option maxRecDepth 100000 in
set_option maxHeartbeats 6400000 in
theorem rbest_calls {w : World} {a am az ar : Option Addr} {n c nm cm ns cs m d : Nat} {ts : Vc.Toks} {ms : List Mg4} {sp : Vc.Sps} {xs : Pr.Row} (V : Vo w a n c am nm cm az ns cs ts ms sp) (R : Ir w ar m d xs) (hm : nm ≤ 1000000) (hn : m ≤ 1000000) :
    Calls Try.prog 16 #[.agg #[.slice a n c, .slice am nm cm, .slice az ns cs], .slice ar m d] w fun e w' => e = .returned (.tuple #[.int .i64 (Pr.pz (Pr.best ms xs)), .int .i64 (Pr.kz (Pr.best ms xs))]) ∧ Below w.heap.size w w' := by
  have hl := R.len
  have hlm := V.M.len
  have B0 := hid ((Below.refl w.heap.size w).alloc (Nat.le_refl _) (.cells #[.slice a n c, .slice am nm cm, .slice az ns cs] 26))
  have X0 := hid (Bx3.new w 26 (.slice a n c) (.slice am nm cm) (.slice az ns cs))
  have MW := hid V.M
  have RW := hid R
  clear V R
  go_enter Try.func16, Try.ntmps16
  go_wp2_with fail
  go_loopg [6, 7, 8] m (fun r pv kv iv wr => ∃ (j : Nat) (px kx : Int), r = m - j ∧ iv = .int .i64 (j : Int) ∧ pv = .int .i64 px ∧ kv = .int .i64 kx ∧ ((m = 0 ∧ j = 0) ∨ j + 1 ≤ m) ∧ Hid (px = Pr.pz (Pr.bst ms xs j) ∧ kx = Pr.kz (Pr.bst ms xs j)) ∧ Hid (Bx3 wr w.heap.size 26 (.slice a n c) (.slice am nm cm) (.slice az ns cs)) ∧ Hid (Below w.heap.size w wr))
  case atStart => exact ⟨0, -1, -1, rfl, rfl, rfl, rfl, by omega, hid ⟨rfl, rfl⟩, X0, B0⟩
  case round =>
    obtain ⟨j, px, kx, rfl, rfl, rfl, rfl, hj, HV, HX, HB⟩ := hrel
    have e1 : IntKind.i64.wrap ((j : Int) + 1) = j + 1 := i64_in (by omega) (by omega)
    by_cases hlt : j + 1 < m
    · have k1 : (j : Int) + 1 < m := by omega
      have k0 : (0 : Int) ≤ j := by omega
      have k2 : (0 : Int) ≤ (j : Int) + 1 := by omega
      have k3 : (j : Int) < m := by omega
      have hB1 := HB.out.size
      have hX1 := HX.out.lt
      have M1 := hid (MW.out.below HB.out)
      obtain ⟨b, off, rfl, hbl, hc⟩ := (RW.out.below HB.out).at' (by omega)
      have p0 := hc j (by omega)
      have p1 := hc (j + 1) hlt
      have WY := hid (Pr.bst_waysR ms xs j)
      obtain ⟨l, hx⟩ : ∃ x, it xs j = x := ⟨_, rfl⟩
      obtain ⟨r, hy⟩ : ∃ x, it xs (j + 1) = x := ⟨_, rfl⟩
      rw [hx] at p0 WY
      rw [hy] at p1 WY
      obtain ⟨f, hf⟩ : ∃ x, Pr.fz ms l r = x := ⟨_, rfl⟩
      have FC := hid (show ∀ W, Below wr.heap.size wr W → Calls Try.prog 13 #[.agg #[.slice a n c, .slice am nm cm, .slice az ns cs], .int .i64 l, .int .i64 r] W fun e w' => e = .returned (.int .i64 f) ∧ Below W.heap.size W w' from fun W hW => by
        have := rfind_calls (a := a) (n := n) (c := c) (az := az) (ns := ns) (cs := cs) (M1.out.below hW) l r hm
        rw [hf] at this
        exact this)
      rw [hf] at WY
      have c0 := HX.out.cell0
      have c1 := HX.out.cell1
      have c2 := HX.out.cell2
      clear hc hx hy hf
      go_wp2_with fail
      go_region_held3 (fun w' => w'.cell? ⟨w.heap.size, 0, none⟩ = some (.slice a n c) ∧ w'.cell? ⟨w.heap.size, 1, none⟩ = some (.slice am nm cm) ∧ w'.cell? ⟨w.heap.size, 2, none⟩ = some (.slice az ns cs) ∧ w'.cell? ⟨b, off + j, none⟩ = some (.int .i64 l) ∧ w'.cell? ⟨b, off + (j + 1), none⟩ = some (.int .i64 r)) (first | with_reducible exact N2.out | go_keep) (first | (go_at_call 13; refine (FC.out _ (Below.refl _ _).drew).mono ?_; rintro e w2 ⟨rfl, b2⟩; have B2 := hid (show Below wr.heap.size wr w2 from (Below.refl _ wr).drew.trans b2); have N2 := hid (show w2.cell? ⟨w.heap.size, 0, none⟩ = some (.slice a n c) ∧ w2.cell? ⟨w.heap.size, 1, none⟩ = some (.slice am nm cm) ∧ w2.cell? ⟨w.heap.size, 2, none⟩ = some (.slice az ns cs) ∧ w2.cell? ⟨b, off + j, none⟩ = some (.int .i64 l) ∧ w2.cell? ⟨b, off + (j + 1), none⟩ = some (.int .i64 r) from ⟨(B2.out.cell (p := ⟨w.heap.size, 0, none⟩) hX1).trans c0, (B2.out.cell (p := ⟨w.heap.size, 1, none⟩) hX1).trans c1, (B2.out.cell (p := ⟨w.heap.size, 2, none⟩) hX1).trans c2, (B2.out.cell (p := ⟨b, off + j, none⟩) hbl).trans p0, (B2.out.cell (p := ⟨b, off + (j + 1), none⟩) hbl).trans p1⟩); clear b2))
      have X2 := hid (HX.out.below B2.out HX.out.lt)
      have B3 := hid (HB.out.trans (B2.out.mono HB.out.size))
      have M2 := hid (M1.out.below B2.out)
      clear HX HB B2 N2 FC p0 p1 c0 c1 c2 M1 hB1 hX1
      have x1 := X2.out.cell1
      have X5 := hid (fun d => X2.out.below (below_drewN (Below.refl _ _) d) X2.out.lt)
      have B5 := hid (fun d => below_drewN B3.out d)
      rcases WY.out with ⟨rfl, hs⟩ | ⟨k, rfl, hk, hh, h1, h2⟩ | ⟨k, bb, rfl, hk, hh, hbb, hlo, h1, h2⟩ | ⟨k, bb, rfl, hk, hh, hbb, hlo, hs⟩
      · have HVn := hid (show px = Pr.pz (Pr.bst ms xs (j + 1)) ∧ kx = Pr.kz (Pr.bst ms xs (j + 1)) from by rw [hs]; exact HV.out)
        clear hs
        go_wp2_with fail
        go_quiet (fail)
        have X6 := hid (X5.out nq)
        have B6 := hid (B5.out nq)
        go_wp2_with fail
        go_roundg (m - (j + 1))
        case measure => omega
        case rel => exact ⟨j + 1, px, kx, rfl, by go_num, rfl, rfl, by omega, HVn, X6, B6⟩
      · have hkx : kx = -1 := HV.out.2.trans hh
        subst hkx
        have g0 : (0 : Int) ≤ k := by omega
        have HVn := hid (show (j : Int) = Pr.pz (Pr.bst ms xs (j + 1)) ∧ (k : Int) = Pr.kz (Pr.bst ms xs (j + 1)) from ⟨h1.symm, h2.symm⟩)
        clear hh h1 h2
        go_wp2_with fail
        go_quiet (fail)
        have X6 := hid (X5.out nq)
        have B6 := hid (B5.out nq)
        go_wp2_with fail
        go_roundg (m - (j + 1))
        case measure => omega
        case rel => exact ⟨j + 1, j, k, rfl, by go_num, rfl, rfl, by omega, HVn, X6, B6⟩
      · have hkx : kx = bb := HV.out.2.trans hh
        subst hkx
        obtain ⟨b7, o7, rfl, hb7, hc7⟩ := M2.out.at' (by omega)
        have q1 := (hc7 k (by omega)).2.2.2
        have q2 := (hc7 bb (by omega)).2.2.2
        obtain ⟨u1, hu1⟩ : ∃ x, (mat ms k).2.2.2 = x := ⟨_, rfl⟩
        obtain ⟨u2, hu2⟩ : ∃ x, (mat ms bb).2.2.2 = x := ⟨_, rfl⟩
        have hlo2 : u1 < u2 := by rw [← hu1, ← hu2]; exact hlo
        rw [hu1] at q1
        rw [hu2] at q2
        have g0 : (0 : Int) ≤ k := by omega
        have g1 : (0 : Int) ≤ bb := by omega
        have g2 : decide ((bb : Int) < 0) = false := decide_eq_false (by omega)
        have g3 : (k : Int) < nm := by omega
        have g4 : (bb : Int) < nm := by omega
        have HVn := hid (show (j : Int) = Pr.pz (Pr.bst ms xs (j + 1)) ∧ (k : Int) = Pr.kz (Pr.bst ms xs (j + 1)) from ⟨h1.symm, h2.symm⟩)
        clear hh h1 h2 hlo hu1 hu2 hc7
        go_wp2_with fail
        go_quiet (fail)
        have X6 := hid (X5.out nq)
        have B6 := hid (B5.out nq)
        go_wp2_with fail
        go_roundg (m - (j + 1))
        case measure => omega
        case rel => exact ⟨j + 1, j, k, rfl, by go_num, rfl, rfl, by omega, HVn, X6, B6⟩
      · have hkx : kx = bb := HV.out.2.trans hh
        subst hkx
        obtain ⟨b7, o7, rfl, hb7, hc7⟩ := M2.out.at' (by omega)
        have q1 := (hc7 k (by omega)).2.2.2
        have q2 := (hc7 bb (by omega)).2.2.2
        obtain ⟨u1, hu1⟩ : ∃ x, (mat ms k).2.2.2 = x := ⟨_, rfl⟩
        obtain ⟨u2, hu2⟩ : ∃ x, (mat ms bb).2.2.2 = x := ⟨_, rfl⟩
        have hlo2 : decide (u1 < u2) = false := decide_eq_false (by rw [← hu1, ← hu2]; exact Int.not_lt.2 hlo)
        rw [hu1] at q1
        rw [hu2] at q2
        have g0 : (0 : Int) ≤ k := by omega
        have g1 : (0 : Int) ≤ bb := by omega
        have g2 : decide ((bb : Int) < 0) = false := decide_eq_false (by omega)
        have g3 : (k : Int) < nm := by omega
        have g4 : (bb : Int) < nm := by omega
        have HVn := hid (show px = Pr.pz (Pr.bst ms xs (j + 1)) ∧ (bb : Int) = Pr.kz (Pr.bst ms xs (j + 1)) from by rw [hs]; exact HV.out)
        clear hh hs hlo hu1 hu2 hc7
        go_wp2_with fail
        go_quiet (fail)
        have X6 := hid (X5.out nq)
        have B6 := hid (B5.out nq)
        go_wp2_with fail
        go_roundg (m - (j + 1))
        case measure => omega
        case rel => exact ⟨j + 1, px, bb, rfl, by go_num, rfl, rfl, by omega, HVn, X6, B6⟩
    · have k1 : ¬ (j : Int) + 1 < m := by omega
      have HE := hid (show Pr.bst ms xs j = Pr.best ms xs by unfold Pr.best; congr 1; omega)
      have HV2 := hid HV.out
      rw [HE.out] at HV2
      go_wp2_with fail
      go_ret2
      exact ⟨by rw [← HV2.out.1, ← HV2.out.2]; rfl, HB.out⟩

set_option maxRecDepth 100000 in
set_option maxHeartbeats 6400000 in
theorem rstep_calls {w : World} {a am az ar : Option Addr} {n c nm cm ns cs m d : Nat} {ts : Vc.Toks} {ms : List Mg4} {sp : Vc.Sps} {xs : Pr.Row} (V : Vo w a n c am nm cm az ns cs ts ms sp) (R : Ir w ar m d xs) (hm : nm ≤ 1000000) (hn : m ≤ 1000000) :
    Calls Try.prog 18 #[.agg #[.slice a n c, .slice am nm cm, .slice az ns cs], .slice ar m d] w fun e w' => StOut ms xs e w' ∧ Below w.heap.size w w' := by
  obtain ⟨i0, hi, hz0, hz1, hz2⟩ := info_parts Try.infoInt
  have hl := R.len
  have hlm := V.M.len
  have B0 := hid ((Below.refl w.heap.size w).alloc (Nat.le_refl _) (.cells #[.slice a n c, .slice am nm cm, .slice az ns cs] 26))
  have X0 := hid (Bx3.new w 26 (.slice a n c) (.slice am nm cm) (.slice az ns cs))
  have V0 := hid (V.below B0.out)
  have R0 := hid (R.below B0.out)
  clear V R
  have x0 := X0.out.cell0
  have x1 := X0.out.cell1
  have x2 := X0.out.cell2
  go_enter Try.func18, Try.ntmps18
  go_wp2_with fail
  refine (rbest_calls V0.out R0.out hm hn).mono ?_
  rintro e w1 ⟨rfl, b1⟩
  have X1 := hid (X0.out.below b1 X0.out.lt)
  have M1 := hid (V0.out.M.below b1)
  have R1 := hid (R0.out.below b1)
  have B1 := hid (B0.out.trans (b1.mono B0.out.size))
  have hb1 := B1.out.size
  clear b1 X0 V0 R0 B0 x0 x1 x2
  cases hb : Pr.best ms xs with
  | none =>
    have HS := hid (Pr.step_none hb)
    clear hb
    have e1 : Pr.kz none = -1 := rfl
    have e2 : Pr.pz none = -1 := rfl
    rw [e1, e2]
    have B2 := hid (B1.out.alloc hb1 (.cells #[] 3))
    have I2 := hid (Ir.zero (w1.alloc (.cells #[] 3)) (some ⟨w1.heap.size, 0, none⟩) 0 (Nat.zero_le _) (fun h => by cases h))
    go_wp2_with fail
    go_ret2
    exact ⟨.inl ⟨HS.out, _, _, rfl, I2.out⟩, B2.out⟩
  | some q =>
    obtain ⟨p, k⟩ := q
    have hlt := Pr.best_lt hb
    have HS := hid (Pr.step_some hb)
    have e1 : Pr.kz (some (p, k)) = (k : Int) := rfl
    have e2 : Pr.pz (some (p, k)) = (p : Int) := rfl
    rw [e1, e2]
    clear hb e1 e2
    rw [hl, hlm] at hlt
    obtain ⟨hp, hk⟩ := hlt
    obtain ⟨b7, o7, rfl, hb7, hc7⟩ := M1.out.at' (by omega)
    have q1 := (hc7 k hk).2.2.1
    obtain ⟨o, ho⟩ : ∃ x, (mat ms k).2.2.1 = x := ⟨_, rfl⟩
    rw [ho] at q1 HS
    obtain ⟨br, or, rfl, hbr, hcr⟩ := R1.out.at' (by omega)
    have hle := R1.out.le
    have hmx := R1.out.mx
    unfold maxLen at hmx
    clear hc7 ho hcr
    have g0 : decide ((k : Int) < 0) = false := decide_eq_false (by omega)
    have g1 : (0 : Int) ≤ k := by omega
    have g2 : (k : Int) < nm := by omega
    have g3 : (0 : Int) ≤ p := by omega
    have g4 : (p : Int) ≤ d := by omega
    obtain ⟨q2, hq2⟩ : ∃ q, q = p + 2 := ⟨_, rfl⟩
    have g5 : IntKind.i64.wrap ((p : Int) + 2) = q2 := by rw [i64_in (by omega) (by omega)]; omega
    have g6 : (0 : Int) ≤ q2 := by omega
    have g7 : (q2 : Int) ≤ m := by omega
    have g8 : (q2 : Int) ≤ d := by omega
    have g9 : (m : Int) ≤ d := by omega
    have HQ2 := hid hq2
    have x1 := X1.out.cell1
    -- the three that are appended
    have C2 := hid ((Below.refl w1.heap.size w1).alloc (Nat.le_refl _) (.cells #[] 3))
    have F2 := hid ((R1.out.below C2.out).first p (by omega))
    have HJ := hid (show iv (Pr.jn xs p o) = iv (xs.take p) ++ [.int .i64 o] ++ iv (xs.drop q2) by
      rw [hq2]
      unfold Pr.jn iv
      simp)
    have x12 := (X1.out.alloc (.cells #[] 3)).cell1
    have hpm : p ≤ m := by omega
    clear hq2 hp
    by_cases hd : d = q2
    · have hds := hd.symm
      subst hds
      have hdz : xs.drop q2 = [] := List.drop_eq_nil_of_le (by omega)
      have HD := hid hdz
      clear hdz
      go_wp2_with (first | (at_builtin; refine wpList_append_src rfl _ _ 39 rfl w1.heap.size 3 i0 (.int .i64 0) 1 8 Try.underlying39 hi hz0 hz1 hz2 rfl (by decide) _ 0 _ rfl (own_empty w1.heap.size rfl (Nat.le_refl _)) (some ⟨br, or, none⟩) p q2 (iv (xs.take p)) rfl F2.out.src (by unfold maxLen; omega) (by omega) (by simp) ?_; intro v3 w3 own gr loc; rw [Nat.zero_add, List.nil_append] at own; obtain ⟨a3, c3, rfl, _⟩ := Ir.ofOwn own; have O3 := hid own; have C3 := hid (C2.out.grown gr (by simp) (fun g h => Nat.le_of_eq (Option.some.inj (show some w1.heap.size = some g from h)))); have x13 := (X1.out.below C3.out X1.out.lt).cell1; have q13 := (C3.out.cell (p := ⟨b7, o7 + k * 4 + 2, none⟩) hb7).trans q1; have C4 := hid (C3.out.alloc C3.out.size (.cells #[.int .i64 o] 3)); clear own gr loc) | (at_builtin; refine wpList_append_src rfl _ _ 39 rfl w1.heap.size 3 i0 (.int .i64 0) 1 8 Try.underlying39 hi hz0 hz1 hz2 rfl (by decide) _ p _ rfl (O3.out.alloc _) (some ⟨w3.heap.size, 0, none⟩) 1 1 [.int .i64 o] rfl (Src.new #[.int .i64 o] 3 w3.heap.size rfl rfl (by simp [Value.oneCell'])) (by unfold maxLen; omega) (by omega) (by have := C3.out.size; simp; omega) ?_; intro v5 w5 own gr loc; obtain ⟨a5, c5, rfl, _⟩ := Ir.ofOwn (xs := xs.take p ++ [o]) (by rw [← iv_append]; exact own); have O5 := hid own; have C5 := hid (C4.out.grown gr C4.out.size (fun g h => ((O3.out.lt g h).1))); clear own gr loc) | (at_builtin; refine wpList_append_src rfl _ _ 39 rfl w1.heap.size 3 i0 (.int .i64 0) 1 8 Try.underlying39 hi hz0 hz1 hz2 rfl (by decide) _ (p + 1) _ rfl O5.out (some ⟨br, or, none⟩) 0 0 (iv (xs.drop q2)) rfl (Ir.src (show Ir w5 (some ⟨br, or, none⟩) 0 0 (xs.drop q2) from by rw [HD.out]; exact Ir.zero w5 _ 0 (Nat.zero_le _) (fun _ => rfl))) (by unfold maxLen; omega) (by omega) C5.out.size ?_; intro v7 w7 own gr loc; obtain ⟨a7, c7, rfl, I7⟩ := Ir.ofOwn (xs := Pr.jn xs p o) (by rw [HJ.out]; exact own); have J7 := hid I7; have C7 := hid (C5.out.grown gr C5.out.size (fun g h => ((O5.out.lt g h).1))); clear own gr loc I7))
      go_ret2
      exact ⟨.inr ⟨_, _, _, _, HS.out, rfl, J7.out⟩, B1.out.trans (C7.out.mono hb1)⟩
    · have hd' : ¬ d = q2 := hd
      go_wp2_with (first | (at_builtin; refine wpList_append_src rfl _ _ 39 rfl w1.heap.size 3 i0 (.int .i64 0) 1 8 Try.underlying39 hi hz0 hz1 hz2 rfl (by decide) _ 0 _ rfl (own_empty w1.heap.size rfl (Nat.le_refl _)) (some ⟨br, or, none⟩) p d (iv (xs.take p)) rfl F2.out.src (by unfold maxLen; omega) (by omega) (by simp) ?_; intro v3 w3 own gr loc; rw [Nat.zero_add, List.nil_append] at own; obtain ⟨a3, c3, rfl, _⟩ := Ir.ofOwn own; have O3 := hid own; have C3 := hid (C2.out.grown gr (by simp) (fun g h => Nat.le_of_eq (Option.some.inj (show some w1.heap.size = some g from h)))); have x13 := (X1.out.below C3.out X1.out.lt).cell1; have q13 := (C3.out.cell (p := ⟨b7, o7 + k * 4 + 2, none⟩) hb7).trans q1; have C4 := hid (C3.out.alloc C3.out.size (.cells #[.int .i64 o] 3)); clear own gr loc) | (at_builtin; refine wpList_append_src rfl _ _ 39 rfl w1.heap.size 3 i0 (.int .i64 0) 1 8 Try.underlying39 hi hz0 hz1 hz2 rfl (by decide) _ p _ rfl (O3.out.alloc _) (some ⟨w3.heap.size, 0, none⟩) 1 1 [.int .i64 o] rfl (Src.new #[.int .i64 o] 3 w3.heap.size rfl rfl (by simp [Value.oneCell'])) (by unfold maxLen; omega) (by omega) (by have := C3.out.size; simp; omega) ?_; intro v5 w5 own gr loc; obtain ⟨a5, c5, rfl, _⟩ := Ir.ofOwn (xs := xs.take p ++ [o]) (by rw [← iv_append]; exact own); have O5 := hid own; have C5 := hid (C4.out.grown gr C4.out.size (fun g h => ((O3.out.lt g h).1))); clear own gr loc) | (at_builtin; refine wpList_append_src rfl _ _ 39 rfl w1.heap.size 3 i0 (.int .i64 0) 1 8 Try.underlying39 hi hz0 hz1 hz2 rfl (by decide) _ (p + 1) _ rfl O5.out (some ⟨br, or + q2, none⟩) (m - q2) (d - q2) (iv (xs.drop q2)) rfl (Ir.src ((R1.out.below C5.out).cut q2 (by omega))) (by unfold maxLen; omega) (by omega) C5.out.size ?_; intro v7 w7 own gr loc; obtain ⟨a7, c7, rfl, I7⟩ := Ir.ofOwn (xs := Pr.jn xs p o) (by rw [HJ.out]; exact own); have J7 := hid I7; have C7 := hid (C5.out.grown gr C5.out.size (fun g h => ((O5.out.lt g h).1))); clear own gr loc I7))
      go_ret2
      exact ⟨.inr ⟨_, _, _, _, HS.out, rfl, J7.out⟩, B1.out.trans (C7.out.mono hb1)⟩

set_option maxRecDepth 100000 in
set_option maxHeartbeats 6400000 in
theorem rrun_calls {w : World} {a am az ar : Option Addr} {n c nm cm ns cs m d : Nat} {ts : Vc.Toks} {ms : List Mg4} {sp : Vc.Sps} {xs : Pr.Row} (V : Vo w a n c am nm cm az ns cs ts ms sp) (R : Ir w ar m d xs) (hm : nm ≤ 1000000) (hn : m ≤ 1000000) :
    Calls Try.prog 21 #[.agg #[.slice a n c, .slice am nm cm, .slice az ns cs], .slice ar m d] w fun e w' => RuOut ms xs e w' ∧ Below w.heap.size w w' := by
  have hl := R.len
  have B0 := hid ((Below.refl w.heap.size w).alloc (Nat.le_refl _) (.cells #[.slice a n c, .slice am nm cm, .slice az ns cs] 26))
  have X0 := hid (Bx3.new w 26 (.slice a n c) (.slice am nm cm) (.slice az ns cs))
  have R0 := hid (R.below B0.out)
  have VW := hid V
  clear V R
  go_enter Try.func21, Try.ntmps21
  go_wp2_with fail
  go_loopg [5, 11] m (fun r ov iv' wr => ∃ (j k kc : Nat) (ao : Option Addr) (ys : Pr.Row), r = m - j ∧ iv' = .int .i64 (j : Int) ∧ ov = .slice ao k kc ∧ j ≤ m ∧ k ≤ m ∧ Hid (Ir wr ao k kc ys) ∧ Hid (Pr.runN ms (m - j) ys = Pr.run ms xs) ∧ Hid (Bx3 wr w.heap.size 26 (.slice a n c) (.slice am nm cm) (.slice az ns cs)) ∧ Hid (Below w.heap.size w wr))
  case atStart => exact ⟨0, m, d, ar, xs, rfl, rfl, rfl, by omega, by omega, R0, hid (by unfold Pr.run; rw [hl]; rfl), X0, B0⟩
  case round =>
    clear R0 X0 B0
    obtain ⟨j, k, kc, ao, ys, rfl, rfl, rfl, hj, hk, HI, HE, HX, HB⟩ := hrel
    by_cases hlt : j < m
    · have l0 : (0 : Int) ≤ j := by omega
      have l1 : (j : Int) < m := by omega
      have l2 : IntKind.i64.wrap ((j : Int) + 1) = j + 1 := i64_in (by omega) (by omega)
      have c0 := HX.out.cell0
      have c1 := HX.out.cell1
      have c2 := HX.out.cell2
      obtain ⟨q, hq⟩ : ∃ q, m - j = q + 1 := ⟨m - j - 1, by omega⟩
      have hq2 : m - (j + 1) = q := by omega
      have HQ := hid hq2
      rw [hq] at HE
      clear hq hq2
      go_wp2_with fail
      refine (rstep_calls (VW.out.below HB.out) HI.out hm (by omega)).mono ?_
      rintro e w2 ⟨E2, b2⟩
      have X2 := hid (HX.out.below b2 HX.out.lt)
      have B2 := hid (HB.out.trans (b2.mono HB.out.size))
      have I2 := hid (HI.out.below b2)
      have hlen := HI.out.len
      clear b2 HX HB HI c0 c1 c2
      rcases E2 with ⟨hs, ea, ec, rfl, he⟩ | ⟨zs, za, zm, zc, hs, rfl, he⟩
      · have HS := hid (show Pr.run ms xs = ys by rw [← HE.out]; exact Pr.runN_stop hs _)
        clear hs he
        go_wp2_with fail
        go_ret
        exact ⟨⟨_, _, _, rfl, by rw [HS.out]; exact I2.out⟩, B2.out⟩
      · have hzl := he.len
        have hsl := Pr.step_len hs
        have HS := hid (show Pr.runN ms (m - (j + 1)) zs = Pr.run ms xs by rw [← HE.out, HQ.out]; exact (Pr.runN_step hs q).symm)
        have I3 := hid he
        have hzm : zm ≤ m := by omega
        clear hs he hzl hsl
        go_wp2_with fail
        go_roundg (m - (j + 1))
        case measure => omega
        case rel => exact ⟨j + 1, zm, zc, za, zs, rfl, by go_num, rfl, by omega, hzm, I3, HS, X2, B2⟩
    · have l1 : ¬ (j : Int) < m := by omega
      have HS := hid (show Pr.run ms xs = ys by rw [← HE.out, show m - j = 0 by omega]; rfl)
      go_wp2_with fail
      go_ret
      exact ⟨⟨_, _, _, rfl, by rw [HS.out]; exact HI.out⟩, HB.out⟩
end Go.Proofs.Ytfgbpjajkmfkoaa
