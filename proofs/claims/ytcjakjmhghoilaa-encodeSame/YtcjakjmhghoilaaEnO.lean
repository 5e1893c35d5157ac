/-
  Walk of rowOf: a row of links, each byte alone, of which all that may merge waits.
-/
import Derived.Test.YtcjakjmhghoilaaEnJ
import Derived.BigRegion
import Derived.Deep.RegionHeld3
namespace Go.Proofs.Ytcjakjmhghoilaa
open Go.RowKit Go.Maps
set_option linter.unusedVariables false
open Pr (it)
open Hp (Ent lt wo Dis)
/-- What queue.New answers, said of the value. -/
def NqV (w0 W : World) (u : Value) (w' : World) : Prop := ∃ O M v, u = .pointer (some ⟨O, 0, none⟩) ∧ Sq w0 w' O M v [] (fun _ => False) ∧ W.heap.size ≤ O ∧ W.heap.size ≤ M ∧ v.ownBlock = none ∧ Below W.heap.size W w'
theorem nq_v {w0 W : World} (hb : Below w0.heap.size w0 W) : Calls Try.prog 45 #[] W fun e w' => ∃ u, e = .returned u ∧ NqV w0 W u w' :=
  (snew w0 W hb).mono fun e w' ⟨O, M, v, he, h⟩ => ⟨_, he, O, M, v, rfl, h⟩
/-- The zero links. -/
def zLinks (n : Nat) : Obj := .cells (fvals (fun _ => 0) (fun _ => 0) (fun _ => 0) n).toArray 92
section
variable {w w2 : World} {O M D N : Nat} {v : Value} {ms : List Mg4}
theorem rm_first (hN : N ≤ 9000) (hD : TbIn w D ms) (q : Sq w w2 O M v [] (fun _ => False)) :
    Rm w ((w2.alloc (zLinks N)).alloc (.cells #[.slice (some ⟨w2.heap.size, 0, none⟩) N N, fv D, .pointer (some ⟨O, 0, none⟩)] 68)) (w2.heap.size + 1) w2.heap.size O M D N v [] ms (fun _ => 0) (fun _ => 0) (fun _ => 0) := by
  have hs : (w2.alloc (zLinks N)).heap.size = w2.heap.size + 1 := by simp
  have b2 : Below w2.heap.size w2 ((w2.alloc (zLinks N)).alloc (.cells #[.slice (some ⟨w2.heap.size, 0, none⟩) N N, fv D, .pointer (some ⟨O, 0, none⟩)] 68)) := ((Below.refl _ w2).alloc (Nat.le_refl _) _).alloc (by omega) _
  refine ⟨?_, ?_, ⟨q.q.below b2, q.base, q.below.trans (b2.mono q.below.size), ?_⟩, hD, fun _ _ => rfl, fun x hx => (by cases hx), hN, q.below.size, by omega⟩
  · have h := Bx3.new (w2.alloc (zLinks N)) 68 (.slice (some ⟨w2.heap.size, 0, none⟩) N N) (fv D) (.pointer (some ⟨O, 0, none⟩))
    rw [hs] at h
    exact h
  · exact (Below.heap_alloc _ _ _ (by omega)).trans (heap_alloc_new w2 _)
  · have hs2 : ((w2.alloc (zLinks N)).alloc (.cells #[.slice (some ⟨w2.heap.size, 0, none⟩) N N, fv D, .pointer (some ⟨O, 0, none⟩)] 68)).heap.size = w2.heap.size + 2 := by simp
    rintro k (rfl | rfl)
    · exact ⟨by omega, fun e => by have := q.q.lt e; omega⟩
    · exact ⟨by omega, fun e => by have := q.q.lt e; omega⟩
theorem rm_second (hN : N ≤ 9000) (hD : TbIn w D ms) (q : Sq w w2 O M v [] (fun _ => False)) (hO : (w.alloc (zLinks N)).drew.heap.size ≤ O) (hM : (w.alloc (zLinks N)).drew.heap.size ≤ M) (hv : v.ownBlock = none) (b : Below (w.alloc (zLinks N)).drew.heap.size (w.alloc (zLinks N)).drew w2) :
    Rm w (w2.alloc (.cells #[.slice (some ⟨w.heap.size, 0, none⟩) N N, fv D, .pointer (some ⟨O, 0, none⟩)] 68)) w2.heap.size w.heap.size O M D N v [] ms (fun _ => 0) (fun _ => 0) (fun _ => 0) := by
  have hs : (w.alloc (zLinks N)).drew.heap.size = w.heap.size + 1 := by simp
  have b2 : Below w2.heap.size w2 (w2.alloc (.cells #[.slice (some ⟨w.heap.size, 0, none⟩) N N, fv D, .pointer (some ⟨O, 0, none⟩)] 68)) := (Below.refl _ w2).alloc (Nat.le_refl _) _
  have hk : w.heap.size < w2.heap.size := by have := b.size; omega
  have hl2 : (w2.alloc (.cells #[.slice (some ⟨w.heap.size, 0, none⟩) N N, fv D, .pointer (some ⟨O, 0, none⟩)] 68)).heap.size = w2.heap.size + 1 := by simp
  refine ⟨Bx3.new _ _ _ _ _, ?_, ⟨q.q.below b2, q.base, q.below.trans (b2.mono q.below.size), ?_⟩, hD, fun _ _ => rfl, fun x hx => (by cases hx), hN, Nat.le_refl _, by omega⟩
  · exact (Below.heap_alloc _ _ _ hk).trans ((b.block w.heap.size (by omega)).trans (heap_alloc_new w _))
  · rintro k (rfl | rfl)
    · exact ⟨by omega, fun e => by have := q.q.lt e; omega⟩
    · refine ⟨by omega, fun e => ?_⟩
      rcases e with e | e | e
      · omega
      · omega
      · rw [hv] at e; cases e
end
/-- The first j links. -/
def idJ (xs : Pr.Row) (j : Nat) : Nat → Int := fun i => if i < j then it xs i else 0
def lsJ (j : Nat) : Nat → Int := fun i => if i < j then (i : Int) - 1 else 0
def nxJ (j : Nat) : Nat → Int := fun i => if i < j then (i : Int) + 1 else 0
theorem up_next (g : Nat → Int) (j : Nat) : Pr.up (fun i => if i < j then g i else 0) j (g j) = fun i => if i < j + 1 then g i else 0 := by
  funext k
  by_cases e : k = j
  · subst e; rw [Pr.up_at, if_pos (by omega)]
  · rw [Pr.up_ne _ e]
    by_cases e2 : k < j
    · rw [if_pos e2, if_pos (by omega)]
    · rw [if_neg e2, if_neg (by omega)]
/-- A link laid. -/
theorem Rm.link {w0 w : World} {R K O M D N : Nat} {v : Value} {l : List Ent} {ms : List Mg4} {ids ls nx : Nat → Int} (h : Rm w0 w R K O M D N v l ms ids ls nx) {i : Nat} (hi : i < N) (x y z : Int) (hx : (Lit.int .i64 x).wf = true) :
    (∃ u, w.cell? ⟨K, i * 3, none⟩ = some u) ∧ w.frozen? ⟨K, i * 3, none⟩ = false ∧
    (∃ u, (w.setCell ⟨K, i * 3, none⟩ (.int .i64 x)).cell? ⟨K, i * 3 + 1, none⟩ = some u) ∧ (w.setCell ⟨K, i * 3, none⟩ (.int .i64 x)).frozen? ⟨K, i * 3 + 1, none⟩ = false ∧
    (∃ u, ((w.setCell ⟨K, i * 3, none⟩ (.int .i64 x)).setCell ⟨K, i * 3 + 1, none⟩ (.int .i64 y)).cell? ⟨K, i * 3 + 2, none⟩ = some u) ∧ ((w.setCell ⟨K, i * 3, none⟩ (.int .i64 x)).setCell ⟨K, i * 3 + 1, none⟩ (.int .i64 y)).frozen? ⟨K, i * 3 + 2, none⟩ = false ∧
    Rm w0 (((w.setCell ⟨K, i * 3, none⟩ (.int .i64 x)).setCell ⟨K, i * 3 + 1, none⟩ (.int .i64 y)).setCell ⟨K, i * 3 + 2, none⟩ (.int .i64 z)) R K O M D N v l ms (Pr.up ids i x) (Pr.up ls i y) (Pr.up nx i z) := by
  have h1 := h.set0 hi x hx
  have h2 := h1.set1 hi y
  exact ⟨⟨_, (h.row.at' hi).1⟩, h.row.fr _, ⟨_, (h1.row.at' hi).2.1⟩, h1.row.fr _, ⟨_, (h2.row.at' hi).2.2⟩, h2.row.fr _, h2.set2 hi z⟩
theorem it_map_str {f : Nat → Int} {n i : Nat} (g : UInt8 → Int) (h : i < n) : it ((by_ (str f n)).map g) i = g (UInt8.ofNat (f i).toNat) := by
  have h1 := by_str_at (f := f) h
  unfold it
  rw [List.getD_eq_getElem?_getD, List.getElem?_map, h1]
  rfl
theorem bt_wf {ts : Vc.Toks} (h : Vc.MayT ts) (b : UInt8) : (Lit.int .i64 (Vc.bt ts b)).wf = true := by
  obtain ⟨i, hi, _, e⟩ := Vc.bt_num h b
  rw [e]
  exact wf_in (by omega) (by have := h.len; omega)
/-- What rowOf answers. -/
def RowOut (w : World) (bn : Nat) (ms : List Mg4) (xs : Pr.Row) (e : Ending) (w' : World) : Prop :=
  ∃ R K O M D l ids ls nx, e = .returned (.pointer (some ⟨R, 0, none⟩)) ∧ RmOut w w' R K O M D bn l ms ids ls nx ∧ Pr.Lk (Pr.ch0 xs) bn (-1) ids nx ls ∧ Pr.Agd ms (Pr.ch0 xs) l
set_option maxRecDepth 100000 in
set_option maxHeartbeats 6400000 in
theorem erow_calls {w : World} {B : Nat} {ba : Option Addr} {bn bc : Nat} {f : Nat → Int} {ts : Vc.Toks} {ms : List Mg4} {xs : Pr.Row} (T : Cd w B ts ms) (S : Sl w ba bn bc f) (hn : bn ≤ 9000) (hxs : (by_ (str f bn)).map (Vc.bt ts) = xs) :
    Calls Try.prog 31 #[.pointer (some ⟨B, 0, none⟩), .slice ba bn bc] w fun e w' => RowOut w bn ms xs e w' := by
  obtain ⟨a, c, D, hC, _, hD, hMT, hMM⟩ := T
  have HC := hid hC
  have HS := hid S
  have HD := hid hD
  have hxl : xs.length = bn := by rw [← hxs, List.length_map, by_length, str_size]
  have HB := hid (fun j (hj : j < bn) => show ∃ x : Nat, f j = x ∧ x < 256 ∧ it xs j = Vc.bt ts (UInt8.ofNat x) from by
    have hb := S.bd j
    refine ⟨(f j).toNat, by omega, by omega, ?_⟩
    rw [← hxs, it_map_str _ hj])
  have HW := hid (bt_wf hMT)
  have HXl := hid hxl
  have mk := fun W => run_make_links W bn (by omega)
  have y0 : w.cell? ⟨B, 257, none⟩ = some (.func (.func 25) #[.pointer (some ⟨D, 0, none⟩)] #[]) := hC.c257
  have y1 : (w.alloc (zLinks bn)).cell? ⟨B, 257, none⟩ = some (.func (.func 25) #[.pointer (some ⟨D, 0, none⟩)] #[]) := (hC.alloc _).c257
  unfold zLinks at y1
  clear hC S hD hMT hMM hxs hxl
  go_enter Try.func31, Try.ntmps31
  go_wp2_with fail
  have HN1 := hid y0
  go_region_held3 (fun w' => w'.cell? ⟨B, 257, none⟩ = some (.func (.func 25) #[.pointer (some ⟨D, 0, none⟩)] #[])) (first | with_reducible exact N2.out | with_reducible exact y1 | with_reducible exact cell_alloc N2.out _ | with_reducible exact cell_alloc (cell_alloc N2.out _) _ | go_keep) (first | (go_at_call 45; refine (snew w _ (Below.refl _ _).drew).mono ?_; rintro e w2 ⟨O, M, v, rfl, q2, hO, hM, hv, b2⟩; have N2 := hid (show w2.cell? ⟨B, 257, none⟩ = some (.func (.func 25) #[.pointer (some ⟨D, 0, none⟩)] #[]) from (HC.out.below ((Below.refl _ w).drew.trans b2) HC.out.lt).c257); have HR := hid (rm_first hn HD.out q2); unfold fv zLinks at HR; clear q2 hO hM hv b2) | (go_at_call 45; refine (snew w _ ((Below.refl _ _).alloc (Nat.le_refl _) (zLinks bn)).drew).mono ?_; rintro e w2 ⟨O, M, v, rfl, q2, hO, hM, hv, b2⟩; have N2 := hid (show w2.cell? ⟨B, 257, none⟩ = some (.func (.func 25) #[.pointer (some ⟨D, 0, none⟩)] #[]) from (HC.out.below (((Below.refl _ w).alloc (Nat.le_refl _) (zLinks bn)).drew.trans (b2.mono (by simp))) HC.out.lt).c257); have HR := hid (rm_second hn HD.out q2 hO hM hv b2); unfold fv at HR; clear q2 hO hM hv b2))
  all_goals
    first
      | (obtain ⟨w3, hw3⟩ : ∃ W, (w2.alloc (.cells (fvals (fun _ => 0) (fun _ => 0) (fun _ => 0) bn).toArray 92)).alloc (.cells #[.slice (some ⟨w2.heap.size, 0, none⟩) bn bn, .func (.func 25) #[.pointer (some ⟨D, 0, none⟩)] #[], .pointer (some ⟨O, 0, none⟩)] 68) = W := ⟨_, rfl⟩
         rw [hw3] at HR
         rw [hw3]
         obtain ⟨R, hR⟩ : ∃ R, w2.heap.size + 1 = R := ⟨_, rfl⟩
         rw [hR] at HR
         rw [hR]
         obtain ⟨K, hK⟩ : ∃ K, w2.heap.size = K := ⟨_, rfl⟩
         rw [hK] at HR
         rw [hK])
      | (obtain ⟨w3, hw3⟩ : ∃ W, w2.alloc (.cells #[.slice (some ⟨w.heap.size, 0, none⟩) bn bn, .func (.func 25) #[.pointer (some ⟨D, 0, none⟩)] #[], .pointer (some ⟨O, 0, none⟩)] 68) = W := ⟨_, rfl⟩
         rw [hw3] at HR
         rw [hw3]
         obtain ⟨R, hR⟩ : ∃ R, w2.heap.size = R := ⟨_, rfl⟩
         rw [hR] at HR
         rw [hR]
         obtain ⟨K, hK⟩ : ∃ K, w.heap.size = K := ⟨_, rfl⟩
         rw [hK] at HR
         rw [hK])
    clear hw3 hR hK y0 y1 mk N2 HN1
    have e0 : idJ xs 0 = fun _ => 0 := by funext i; simp [idJ]
    have e1 : lsJ 0 = fun _ => 0 := by funext i; simp [lsJ]
    have e2 : nxJ 0 = fun _ => 0 := by funext i; simp [nxJ]
    have HR := hid (show Rm w w3 R K O M D bn v [] ms (idJ xs 0) (lsJ 0) (nxJ 0) from by rw [e0, e1, e2]; exact HR.out)
    clear e0 e1 e2
    go_wp2_with fail
    go_loopg [21] bn (fun r kv wr => ∃ j : Nat, r = bn - j ∧ kv = .int .i64 (j : Int) ∧ j ≤ bn ∧ Hid (Rm w wr R K O M D bn v [] ms (idJ xs j) (lsJ j) (nxJ j)))
    case atStart => exact ⟨0, rfl, rfl, by omega, HR⟩
    case round =>
      clear HR
      obtain ⟨j, rfl, rfl, hj, H4⟩ := hrel
      by_cases hlt : j < bn
      · have l0 : (0 : Int) ≤ j := by omega
        have l1 : (j : Int) < bn := by omega
        have l2 : IntKind.i64.wrap ((j : Int) + 1) = j + 1 := i64_in (by omega) (by omega)
        have l3 : IntKind.i64.wrap ((j : Int) - 1) = j - 1 := i64_in (by omega) (by omega)
        obtain ⟨x, hx, hx2, hit⟩ := HB.out j hlt
        obtain ⟨bb, off, hba, hbl, hc⟩ := (HS.out.below H4.out.q.below).at' (by omega)
        subst hba
        have p0 := hc j hlt
        rw [hx] at p0
        have x0 : (0 : Int) ≤ x := by omega
        have x1 : (x : Int) < 256 := by omega
        have cx := (HC.out.below H4.out.q.below HC.out.lt).num hx2
        have hw := HW.out (UInt8.ofNat x)
        rw [← hit] at cx hw
        have HN := hid (show idJ xs (j + 1) = Pr.up (idJ xs j) j (it xs j) ∧ lsJ (j + 1) = Pr.up (lsJ j) j ((j : Int) - 1) ∧ nxJ (j + 1) = Pr.up (nxJ j) j ((j : Int) + 1) from ⟨(up_next (it xs) j).symm, (up_next (fun i => (i : Int) - 1) j).symm, (up_next (fun i => (i : Int) + 1) j).symm⟩)
        obtain ⟨y, hy⟩ : ∃ y, it xs j = y := ⟨_, rfl⟩
        rw [hy] at cx hw HN
        have c0 := H4.out.blk.cell0
        obtain ⟨⟨u0, a0⟩, b0, ⟨u1, a1⟩, b1, ⟨u2, a2⟩, b2, h5⟩ := H4.out.link hlt y ((j : Int) - 1) ((j : Int) + 1) hw
        have H5 := hid h5.drew
        clear hc hx hit hw hy h5
        go_wp2_with fail
        go_region
        go_wp2_with fail
        go_roundg (bn - (j + 1))
        case measure => omega
        case rel => exact ⟨j + 1, rfl, by go_num, by omega, hid (by rw [HN.out.1, HN.out.2.1, HN.out.2.2]; exact H5.out)⟩
      · have l1 : ¬ (j : Int) < bn := by omega
        obtain rfl : bn = j := by omega
        have LK := hid (Pr.lk0 xs (N := bn) (z := -1) (ids := idJ xs bn) (nx := nxJ bn) (ls := lsJ bn) HXl.out.symm (fun i hi => by unfold idJ; rw [if_pos hi]) (fun i hi => by unfold nxJ; rw [if_pos hi]) (fun i hi => by
          unfold lsJ
          rw [if_pos hi]
          by_cases g : 0 < i
          · rw [if_pos g]
          · rw [if_neg g]; omega))
        have c0 := H4.out.blk.cell0
        go_wp2_with fail
        go_loopg [49] bn (fun r kv wr => ∃ (j : Nat) (l : List Ent), r = bn - j ∧ kv = .int .i64 (j : Int) ∧ j ≤ bn ∧ Hid (RmOut w wr R K O M D bn l ms (idJ xs bn) (lsJ bn) (nxJ bn)) ∧ Hid (Pr.AgTo ms (Pr.ch0 xs) j l))
        case atStart => exact ⟨0, [], rfl, rfl, by omega, hid ⟨v, H4.out⟩, hid (Pr.agTo_nil _ _)⟩
        case round =>
          clear H4 c0
          obtain ⟨j, l, rfl, rfl, hj, H6, HA⟩ := hrel
          by_cases hlt : j < bn
          · have l0 : (0 : Int) ≤ j := by omega
            have l1 : (j : Int) < bn := by omega
            have l2 : IntKind.i64.wrap ((j : Int) + 1) = j + 1 := i64_in (by omega) (by omega)
            have hjl : j < (Pr.ch0 xs).length := by rw [Pr.ch0_len, HXl.out]; exact hlt
            have hpl := Pr.ch0_pl xs (i := j) (by rw [HXl.out]; exact hlt)
            have hor := LK.out.nx_or hjl
            have haw := LK.out.awf (ms := ms) hjl l
            rw [hpl] at hor haw
            have HOr := hid hor
            have HAw := hid haw
            have HAn := hid (HA.out.next LK.out.asc hjl)
            obtain ⟨v6, h6⟩ := H6.out
            have H7 := hid h6
            clear h6 hor haw hpl
            go_wp2_with fail
            refine (eawait_calls H7.out hlt HOr.out).mono ?_
            rintro e w8 ⟨rfl, o8⟩
            have O8 := hid o8
            clear o8
            go_wp2_with fail
            go_roundg (bn - (j + 1))
            case measure => omega
            case rel => exact ⟨j + 1, _, rfl, by go_num, by omega, hid (by rw [← HAw.out]; exact O8.out), HAn⟩
          · have l1 : ¬ (j : Int) < bn := by omega
            go_wp2_with fail
            go_ret
            exact ⟨R, K, O, M, D, l, _, _, _, rfl, H6.out, LK.out, HA.out.all (by rw [Pr.ch0_len, HXl.out]; omega)⟩
end Go.Proofs.Ytcjakjmhghoilaa
