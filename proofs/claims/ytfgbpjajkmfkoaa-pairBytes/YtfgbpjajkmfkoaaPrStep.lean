/-
  Walks of a table's Step and Run.
-/
import Derived.Test.YtfgbpjajkmfkoaaPrBest
import Derived.Test.YtfgbpjajkmfkoaaPrJoin
namespace Go.Proofs.Ytfgbpjajkmfkoaa
open Go.RowKit Go.Maps
open Pr (it)
set_option linter.unusedVariables false

/-- What Step answers. -/
def StOut (ms : List Mg4) (xs : Pr.Row) (e : Ending) (w' : World) : Prop :=
  (Pr.step ms xs = none ∧ ∃ a c, e = .returned (.tuple #[.slice a 0 c, .bool false]) ∧ Ir w' a 0 c []) ∨
  (∃ ys a m c, Pr.step ms xs = some ys ∧ e = .returned (.tuple #[.slice a m c, .bool true]) ∧ Ir w' a m c ys)
theorem best_ways (ms : List Mg4) (xs : Pr.Row) : (Pr.best ms xs = none ∧ Pr.has (Pr.best ms xs) = false ∧ Pr.step ms xs = none) ∨
    ∃ p k, Pr.best ms xs = some (p, k) ∧ Pr.has (Pr.best ms xs) = true ∧ Pr.plc (Pr.best ms xs) = p ∧ Pr.mrg ms (Pr.best ms xs) = mat ms k ∧ k < ms.length ∧ p + 1 < xs.length ∧ Pr.step ms xs = some (Pr.jn xs p (mat ms k).2.2.1) := by
  cases hb : Pr.best ms xs with
  | none => exact .inl ⟨rfl, rfl, Pr.step_none hb⟩
  | some q =>
    obtain ⟨p, k⟩ := q
    exact .inr ⟨p, k, rfl, rfl, rfl, rfl, (Pr.best_lt hb).2, (Pr.best_lt hb).1, Pr.step_some hb⟩
theorem best_is {w : World} {B : Nat} {ms : List Mg4} {a : Option Addr} {n c : Nat} {xs : Pr.Row} (T : TbIn w B ms) (R : Ir w a n c xs) (F : Fits xs) (hn : n ≤ 1000000) {p x0 x1 x2 x3 : Int} {t : Bool} (hp : Pr.plc (Pr.best ms xs) = p) (hx : Pr.mrg ms (Pr.best ms xs) = (x0, x1, x2, x3)) (ht : Pr.has (Pr.best ms xs) = t) :
    Calls Try.prog 15 #[.pointer (some ⟨B, 0, none⟩), .slice a n c] w fun e w' => e = .returned (.tuple #[.int .i64 p, .agg #[.int .i64 x0, .int .i64 x1, .int .i64 x2, .int .i64 x3], .bool t]) ∧ Below w.heap.size w w' := by
  have h := best_calls T R F hn
  rw [hp, hx, ht] at h
  exact h

set_option maxRecDepth 100000 in
set_option maxHeartbeats 6400000 in
theorem step_calls {w : World} {B : Nat} {ms : List Mg4} {a : Option Addr} {n c : Nat} {xs : Pr.Row} (T : TbIn w B ms) (R : Ir w a n c xs) (F : Fits xs) (hn : n ≤ 1000000) :
    Calls Try.prog 17 #[.pointer (some ⟨B, 0, none⟩), .slice a n c] w fun e w' => StOut ms xs e w' ∧ Below w.heap.size w w' := by
  obtain ⟨i0, hi0, hz0, hz1, hz2⟩ := info_parts Try.infoInt
  have hl := R.len
  obtain ⟨p, hp⟩ : ∃ p, Pr.plc (Pr.best ms xs) = p := ⟨_, rfl⟩
  obtain ⟨⟨x0, x1, x2, x3⟩, hx⟩ : ∃ p, Pr.mrg ms (Pr.best ms xs) = p := ⟨_, rfl⟩
  obtain ⟨t, ht⟩ : ∃ p, Pr.has (Pr.best ms xs) = p := ⟨_, rfl⟩
  have BC := hid (best_is T R F hn hp hx ht)
  have WY := hid (best_ways ms xs)
  rw [hp, hx, ht] at WY
  have RW := hid R
  clear T R F hp hx ht
  go_enter Try.func17, Try.ntmps17
  go_wp2_with fail
  refine BC.out.mono ?_
  rintro e w1 ⟨rfl, b1⟩
  have R1 := hid (RW.out.below b1)
  have B1 := hid b1
  clear b1 BC
  rcases WY.out with ⟨_, rfl, hs⟩ | ⟨q, k, _, rfl, rfl, hm, hk, hq, hs⟩
  · have HS := hid hs
    clear hs
    have B2 := hid (B1.out.alloc B1.out.size (.cells #[.int .i64 x0, .int .i64 x1, .int .i64 x2, .int .i64 x3] 34))
    go_wp2_with fail
    go_ret2
    exact ⟨.inl ⟨HS.out, none, 0, rfl, Ir.none _⟩, B2.out⟩
  · have ho : (mat ms k).2.2.1 = x2 := by rw [← hm]
    rw [ho] at hs
    have HS := hid hs
    have HQ := hid hq
    rw [hl] at hq
    obtain ⟨m, hmn⟩ : ∃ m, n = m + 1 := ⟨n - 1, by omega⟩
    have HM := hid hmn
    have B2 := hid (B1.out.alloc B1.out.size (.cells #[.int .i64 x0, .int .i64 x1, .int .i64 x2, .int .i64 x3] 34))
    have X2 := hid (Bx4.new w1 34 (.int .i64 x0) (.int .i64 x1) (.int .i64 x2) (.int .i64 x3))
    have R2 := hid (R1.out.below ((Below.refl _ w1).alloc (Nat.le_refl _) (.cells #[.int .i64 x0, .int .i64 x1, .int .i64 x2, .int .i64 x3] 34)))
    have g3 : IntKind.i64.wrap ((n : Int) - 1) = m := by rw [i64_in (by omega) (by omega)]; omega
    have hmk := fun w => run_make_vr (P := Try.prog) w (.int .i64 0) 39 3 i0 Try.underlying39 hi0 hz0 rfl hz1 (by omega) m (by omega)
    have hm1 : m ≤ maxLen := by unfold maxLen; omega
    obtain ⟨W, hW⟩ : ∃ W, w1.alloc (.cells #[.int .i64 x0, .int .i64 x1, .int .i64 x2, .int .i64 x3] 34) = W := ⟨_, rfl⟩
    obtain ⟨nb, hnb⟩ : ∃ nb, w1.heap.size = nb := ⟨_, rfl⟩
    rw [hW] at B2 X2 R2
    rw [hnb] at X2
    have x2c := X2.out.cell2
    have HJ := hid (fun (W' : World) (a1 : Below W.heap.size W W') (a2 : W'.heap[W.heap.size]? = some (.cells (vr (fun _ => Value.int .i64 0) m).toArray 3 (0, 0))) => join_calls (R2.out.below a1) HM.out hq a2 (vr_length _ _) hm1 (Nat.le_refl m) (Nat.le_refl m) (.inl (fun b off h => by
      obtain ⟨b', off', h1, h2, _⟩ := R2.out.at' (by omega)
      rw [h] at h1
      cases h1
      exact h2)) x2)
    clear hs hm ho hmn hk R1 B1
    go_wp2_with fail
    try rw [hW, hnb]
    go_region_held3 (fun w' => w'.cell? ⟨nb, 2, none⟩ = some (.int .i64 x2)) (first | with_reducible exact N3.out | with_reducible exact x2c | go_keep) (first | (go_at_call 29; refine (HJ.out _ (by first | exact ((Below.refl _ _).alloc (Nat.le_refl _) _).drew | exact ((Below.refl _ _).alloc (Nat.le_refl _) _) | exact ((Below.refl _ _).drew.alloc (Nat.le_refl _) _)) (by first | exact heap_alloc_new W _ | exact heap_alloc_new W.drew _)).mono ?_; rintro e w3 ⟨rfl, C3, b3⟩; have D3 := hid C3; have N3 := hid (show w3.cell? ⟨nb, 2, none⟩ = some (.int .i64 x2) from (b3.cell (p := ⟨nb, 2, none⟩) X2.out.lt).trans (cell_alloc x2c _)); have E3 := hid (show Below W.heap.size W w3 from Below.trans (by first | exact ((Below.refl _ _).alloc (Nat.le_refl _) _).drew | exact ((Below.refl _ _).alloc (Nat.le_refl _) _) | exact ((Below.refl _ _).drew.alloc (Nat.le_refl _) _)) b3); clear C3 b3))
    all_goals
      go_wp2_with fail
      go_ret2
      refine ⟨.inr ⟨_, _, _, _, HS.out, rfl, ?_⟩, B2.out.trans (E3.out.mono B2.out.size)⟩
      obtain ⟨cur', hg5, hs5, ht5⟩ := D3.out
      exact Ir.ofOwn' (base := W.heap.size) (e := 3) ⟨by rw [iv_length, Pr.jn_len _ HQ.out, hl, Nat.mul_one]; have := HM.out; omega, .inr ⟨W.heap.size, m, cur', rfl, Nat.le_refl _, hg5, Nat.le_refl _, hm1, by rw [hs5, Nat.mul_one], by rw [Nat.mul_one]; exact ht5⟩⟩

/-- What Run answers. -/
def RuOut (ms : List Mg4) (xs : Pr.Row) (e : Ending) (w' : World) : Prop := ∃ a m c, e = .returned (.slice a m c) ∧ Ir w' a m c (Pr.run ms xs)
theorem fits_step {ms : List Mg4} (hF : ∀ k, k < ms.length → (Lit.int .i64 (mat ms k).2.2.1).wf = true) {xs ys : Pr.Row} (h : Fits xs) (hs : Pr.step ms xs = some ys) : Fits ys := by
  rcases best_ways ms xs with ⟨_, _, h1⟩ | ⟨p, k, _, _, _, _, hk, hp, h1⟩
  · rw [h1] at hs; cases hs
  · rw [h1] at hs
    obtain rfl := Option.some.inj hs
    intro x hx
    unfold Pr.jn at hx
    rcases List.mem_append.1 hx with g | g
    · exact h x (List.mem_of_mem_take g)
    · rcases List.mem_cons.1 g with rfl | g
      · exact hF k hk
      · exact h x (List.mem_of_mem_drop g)

set_option maxRecDepth 100000 in
set_option maxHeartbeats 6400000 in
theorem run_calls {w : World} {B : Nat} {ms : List Mg4} {a : Option Addr} {n c : Nat} {xs : Pr.Row} (T : TbIn w B ms) (R : Ir w a n c xs) (F : Fits xs) (hF : ∀ k, k < ms.length → (Lit.int .i64 (mat ms k).2.2.1).wf = true) (hn : n ≤ 1000000) :
    Calls Try.prog 20 #[.pointer (some ⟨B, 0, none⟩), .slice a n c] w fun e w' => RuOut ms xs e w' ∧ Below w.heap.size w w' := by
  have hl := R.len
  have TW := hid T
  have RW := hid R
  have FW := hid F
  have FM := hid hF
  clear T R F hF
  go_enter Try.func20, Try.ntmps20
  go_wp2_with fail
  refine (clone_calls RW.out hn).mono ?_
  rintro e w1 ⟨⟨v, rfl, hv⟩, b1⟩
  have O1 := hid hv
  have B1 := hid b1
  clear hv b1
  go_wp2_with fail
  go_loopg [5] n (fun r ev wr => ∃ (k : Nat) (v : Value) (ys : Pr.Row), k = r ∧ ev = v ∧ k ≤ n ∧ Hid (wr.ownsRow w.heap.size 3 1 v k (iv ys)) ∧ Hid (Pr.run ms ys = Pr.run ms xs) ∧ Hid (Fits ys) ∧ Hid (Below w.heap.size w wr))
  case atStart => exact ⟨n, v, xs, rfl, rfl, Nat.le_refl _, O1, hid rfl, FW, B1⟩
  case round =>
    clear O1 B1
    obtain ⟨k, v, ys, rfl, rfl, hk, HO, HE, HF, HB⟩ := hrel
    obtain ⟨av, cv, rfl, hI⟩ := Ir.ofOwn HO.out
    have hk2 := hI.len
    obtain ⟨p, hp⟩ : ∃ p, Pr.plc (Pr.best ms ys) = p := ⟨_, rfl⟩
    obtain ⟨⟨x0, x1, x2, x3⟩, hx⟩ : ∃ p, Pr.mrg ms (Pr.best ms ys) = p := ⟨_, rfl⟩
    obtain ⟨t, ht⟩ : ∃ p, Pr.has (Pr.best ms ys) = p := ⟨_, rfl⟩
    have BC := hid (best_is (TW.out.below HB.out) hI HF.out (by omega) hp hx ht)
    have WY := hid (best_ways ms ys)
    rw [hp, hx, ht] at WY
    clear hI hp hx ht
    go_wp2_with fail
    refine BC.out.mono ?_
    rintro e w3 ⟨rfl, b3⟩
    have b4 := b3.alloc b3.size (.cells #[.int .i64 x0, .int .i64 x1, .int .i64 x2, .int .i64 x3] 34)
    have O4 := hid (own_below HO.out b4)
    have B4 := hid (HB.out.trans (b4.mono HB.out.size))
    have X4 := hid (Bx4.new w3 34 (.int .i64 x0) (.int .i64 x1) (.int .i64 x2) (.int .i64 x3))
    have x4 := X4.out.cell2
    clear b3 b4 BC HO HB
    rcases WY.out with ⟨_, rfl, hs⟩ | ⟨q, kk, _, rfl, rfl, hm, hkk, hq, hs⟩
    · have HS := hid (show Pr.run ms xs = ys by rw [← HE.out]; exact Pr.run_stop hs)
      clear hs
      have I4 := hid (Ir.ofOwn' O4.out)
      go_wp2_with fail
      go_ret
      exact ⟨⟨_, _, _, rfl, by rw [HS.out]; exact I4.out⟩, B4.out⟩
    · have ho : (mat ms kk).2.2.1 = x2 := by rw [← hm]
      rw [ho] at hs
      rw [hk2] at hq
      have HS := hid (show Pr.run ms (Pr.jn ys q x2) = Pr.run ms xs by rw [← HE.out]; exact (Pr.run_step hs).symm)
      have HF2 := hid (fits_step FM.out HF.out hs)
      obtain ⟨m, hmn⟩ : ∃ m, k = m + 1 := ⟨k - 1, by omega⟩
      have HM := hid hmn
      have I4 := hid (Ir.ofOwn' O4.out)
      rcases O4.out.2 with ⟨_, h0⟩ | ⟨g, cap, cur, hval, hbg, hg, hnc, hmc, hsz, htk⟩
      · omega
      cases hval
      have HJ := hid (join_calls I4.out hmn hq (cur := cur.toList) hg (by rw [Array.length_toList, hsz, Nat.mul_one]) hmc (by omega) hnc (.inr rfl) x2)
      have HBG := hid hbg
      have HMC := hid hmc
      have hnc' := hnc
      clear hs hm ho hkk hmn hbg hg hnc hmc hsz htk I4
      go_wp2_with fail
      refine HJ.out.mono ?_
      rintro e w5 ⟨rfl, ⟨cur', hg5, hs5, ht5⟩, b5⟩
      have O5 := hid (show w5.ownsRow w.heap.size 3 1 (.slice (some ⟨g, 0, none⟩) m cv) m (iv (Pr.jn ys q x2)) from ⟨by rw [iv_length, Pr.jn_len _ (by omega), Nat.mul_one, hk2]; have := HM.out; omega, .inr ⟨g, cv, cur', rfl, HBG.out, hg5, by have := HM.out; omega, HMC.out, by rw [hs5, Nat.mul_one], by rw [Nat.mul_one]; exact ht5⟩⟩)
      have B5 := hid (B4.out.trans (b5.mono HBG.out))
      clear hg5 hs5 ht5 b5 HJ
      go_wp2_with fail
      go_roundg m
      case measure => have := HM.out; omega
      case rel => exact ⟨m, _, Pr.jn ys q x2, rfl, rfl, by have := HM.out; omega, O5, HS, HF2, B5⟩
end Go.Proofs.Ytfgbpjajkmfkoaa
