/-
  Walks of the reference's row of entries: Without, First, Has.
-/
import Derived.Test.YtadkiikakgmpnaaQuA
namespace Go.Proofs.Ytadkiikakgmpnaa
open Go.RowKit Go.Maps Hp
set_option linter.unusedVariables false
def et (l : List Ent) (i : Nat) : Ent := l.getD i (0, 0, 0)
theorem et_mem {l : List Ent} {i : Nat} (h : i < l.length) : et l i ∈ l := by
  unfold et
  rw [List.getD_eq_getElem?_getD, List.getElem?_eq_getElem h]
  exact List.getElem_mem h
theorem mem_et {l : List Ent} {e : Ent} (h : e ∈ l) : ∃ i, i < l.length ∧ et l i = e := by
  obtain ⟨i, hi, rfl⟩ := List.mem_iff_getElem.1 h
  exact ⟨i, hi, by unfold et; rw [List.getD_eq_getElem?_getD, List.getElem?_eq_getElem hi]; rfl⟩
def evl (l : List Ent) : List Value := ev (et l) l.length
theorem evl_snoc (l : List Ent) (x : Ent) : evl l ++ [.int .i64 x.1, .int .i64 x.2.1, .int .i64 x.2.2] = evl (l ++ [x]) := by
  unfold evl
  rw [ev_congr (f := et l) (g := et (l ++ [x])) (fun i hi => by unfold et; simp [List.getD_eq_getElem?_getD, List.getElem?_append_left hi])]
  have h : et (l ++ [x]) l.length = x := by unfold et; simp [List.getD_eq_getElem?_getD]
  have h2 := ev_snoc (et (l ++ [x])) l.length
  rw [h] at h2
  rw [h2]
  congr 1
  simp
/-- A row of entries in memory. -/
structure Er (w : World) (a : Option Addr) (n c : Nat) (l : List Ent) : Prop where
  len : l.length = n
  rs : Rs w a n c (fun i => (et l i).1) (fun i => (et l i).2.1) (fun i => (et l i).2.2)
theorem Er.below {w w' : World} {a : Option Addr} {n c : Nat} {l : List Ent} (h : Er w a n c l) (hb : Below w.heap.size w w') : Er w' a n c l := ⟨h.len, h.rs.below hb⟩
theorem er_own {w : World} {base : Nat} {e : TypeId} {v : Value} {l : List Ent} (h : w.ownsRow base e 3 v l.length (evl l)) : ∃ a c, v = .slice a l.length c ∧ Er w a l.length c l := by
  obtain ⟨a, c, rfl, r⟩ := Rs.ofOwn (L := fun i => (et l i).1) (H := fun i => (et l i).2.1) (C := fun i => (et l i).2.2) h
  exact ⟨a, c, rfl, rfl, r⟩
theorem Er.at' {w : World} {a : Option Addr} {n c : Nat} {l : List Ent} (h : Er w a n c l) {i : Nat} (hi : i < n) : ∃ b off, a = some ⟨b, off, none⟩ ∧ b < w.heap.size ∧
    w.cell? ⟨b, off + i * 3, none⟩ = some (.int .i64 (et l i).1) ∧ w.cell? ⟨b, off + i * 3 + 1, none⟩ = some (.int .i64 (et l i).2.1) ∧ w.cell? ⟨b, off + i * 3 + 2, none⟩ = some (.int .i64 (et l i).2.2) := by
  obtain ⟨b, off, h1, h2, h3⟩ := h.rs.at' (by omega)
  exact ⟨b, off, h1, h2, h3.lo i hi, h3.hi i hi, h3.cl i hi⟩
theorem wo_take {l : List Ent} {p : Int} {j : Nat} (hj : j < l.length) : wo (l.take (j + 1)) p = if (et l j).1 = p then wo (l.take j) p else wo (l.take j) p ++ [et l j] := by
  have h : l.take (j + 1) = l.take j ++ [et l j] := by
    rw [List.take_add_one]
    unfold et
    rw [List.getD_eq_getElem?_getD, List.getElem?_eq_getElem hj]
    rfl
  rw [h]
  unfold wo
  rw [List.filter_append]
  by_cases hp : (et l j).1 = p
  · rw [if_pos hp]; simp [hp]
  · rw [if_neg hp]; simp [hp]
theorem wo_le (l : List Ent) (p : Int) : (wo l p).length ≤ l.length := List.length_filter_le _ _
theorem Try.infoEn : (Try.prog.info? 28).map (fun i => (i.zero, i.size, i.bytes)) = some (some (.agg #[.int .i64 0, .int .i64 0, .int .i64 0]), 3, 24) := by kernel_rfl
def WoOut (w : World) (l : List Ent) (p : Int) (e : Ending) (w' : World) : Prop :=
  ∃ v', e = .returned (.tuple #[v', .bool (decide ((wo l p).length < l.length))]) ∧ w'.ownsRow w.heap.size 28 3 v' (wo l p).length (evl (wo l p)) ∧ Below w.heap.size w w'
set_option maxRecDepth 100000 in
set_option maxHeartbeats 3200000 in
theorem without_calls {w : World} {a : Option Addr} {n c : Nat} {l : List Ent} (h : Er w a n c l) (p : Int) (hn : n ≤ 10000) :
    Calls Try.prog 10 #[.slice a n c, .int .i64 p] w fun e w' => WoOut w l p e w' := by
  obtain ⟨i0, hi0, hz0, hz1, hz2⟩ := info_parts Try.infoEn
  have HH := hid h
  have hl := h.len
  have HL := hid hl
  have O0 := hid (own_empty (w := w) (base := w.heap.size) (e := 28) (size := 3) w.heap.size rfl (Nat.le_refl _))
  have B0 := hid ((Below.refl w.heap.size w).alloc (Nat.le_refl _) (.cells #[] 28))
  clear h hl
  go_enter Try.func10, Try.ntmps10
  go_wp2_with fail
  go_loopg [6, 11] n (fun r ov iv wr => ∃ (j : Nat) (vv : Value), r = n - j ∧ vv = ov ∧ iv = .int .i64 (j : Int) ∧ j ≤ n ∧ Hid (wr.ownsRow w.heap.size 28 3 vv (wo (l.take j) p).length (evl (wo (l.take j) p))) ∧ Hid (Below w.heap.size w wr))
  case atStart => exact ⟨0, _, rfl, rfl, rfl, by omega, O0, B0⟩
  case round =>
    obtain ⟨j, vv, rfl, rfl, rfl, hj, HO, HB⟩ := hrel
    by_cases hlt : j < n
    · have k1 : (j : Int) < n := by omega
      have k0 : (0 : Int) ≤ j := by omega
      have e2 : IntKind.i64.wrap ((j : Int) + 1) = j + 1 := i64_in (by omega) (by omega)
      obtain ⟨b, off, rfl, hbl, p0, p1, p2⟩ := (HH.out.below HB.out).at' hlt
      have hw := wo_take (l := l) (p := p) (j := j) (by rw [HL.out]; exact hlt)
      have hle : (wo (l.take j) p).length ≤ n := Nat.le_trans (wo_le _ _) (by rw [List.length_take]; omega)
      obtain ⟨⟨x0, x1, x2⟩, hx⟩ : ∃ x, et l j = x := ⟨_, rfl⟩
      rw [hx] at p0 p1 p2 hw
      simp only at p0 p1 p2 hw
      by_cases hp : x0 = p
      · rw [if_pos hp] at hw
        have HO2 := hid (show wr.ownsRow w.heap.size 28 3 vv (wo (l.take (j + 1)) p).length (evl (wo (l.take (j + 1)) p)) from by rw [hw]; exact HO.out)
        have t0 : (x0 == p) = true := by simpa using hp
        clear hw hx hp HO hle
        go_wp2_with fail
        go_roundg (n - (j + 1))
        case measure => omega
        case rel => exact ⟨j + 1, _, rfl, rfl, by go_num, by omega, HO2, HB⟩
      · rw [if_neg hp] at hw
        have HW := hid hw
        have t0 : (x0 == p) = false := by simpa using hp
        clear hw hx hp
        go_wp2_with (at_builtin; refine wpList_append_src rfl _ _ 26 rfl w.heap.size 28 i0 _ 3 24 Try.underlying26 hi0 hz0 hz1 hz2 rfl (by omega) _ (wo (l.take j) p).length (evl (wo (l.take j) p)) rfl (HO.out.alloc _) (some ⟨wr.heap.size, 0, none⟩) 1 1 [.int .i64 x0, .int .i64 x1, .int .i64 x2] rfl (Src.new (w := wr) #[.int .i64 x0, .int .i64 x1, .int .i64 x2] 28 wr.heap.size rfl rfl (by simp [Value.oneCell'])) (by unfold maxLen; omega) (by omega) (by have := HB.out.size; simp; omega) ?_; intro v4 w4 ho4 hg4 ha4; have O4 := hid ho4; have G4 := hid hg4; clear ho4 hg4 ha4)
        have B4 := hid ((HB.out.alloc HB.out.size (.cells #[.int .i64 x0, .int .i64 x1, .int .i64 x2] 28)).grown G4.out (by have := HB.out.size; simp; omega) (fun k hk => (HO.out.lt k hk).1))
        have O5 := hid (show w4.ownsRow w.heap.size 28 3 v4 (wo (l.take (j + 1)) p).length (evl (wo (l.take (j + 1)) p)) from by
          rw [HW.out, ← evl_snoc, List.length_append]
          exact O4.out)
        clear O4 G4 HO HW
        go_wp2_with fail
        go_roundg (n - (j + 1))
        case measure => omega
        case rel => exact ⟨j + 1, _, rfl, rfl, by go_num, by omega, O5, B4⟩
    · have hjn : j = n := by omega
      have k1 : ¬ ((j : Int) < n) := by omega
      have O5 := hid (show wr.ownsRow w.heap.size 28 3 vv (wo l p).length (evl (wo l p)) from by
        have h := HO.out
        rw [hjn, ← HL.out, List.take_length] at h
        exact h)
      clear hjn HO
      obtain ⟨a5, c5, rfl⟩ : ∃ a c, vv = Value.slice a (wo l p).length c := by
        obtain ⟨a, c, h, _⟩ := er_own O5.out
        exact ⟨a, c, h⟩
      have FN := hid (show WoOut w l p (.returned (.tuple #[.slice a5 (wo l p).length c5, .bool (decide ((wo l p).length < n))])) wr from ⟨_, by rw [HL.out], O5.out, HB.out⟩)
      go_wp2_with fail
      go_ret2
      exact FN.out
def FiOut (l : List Ent) (e : Ending) : Prop := (l = [] ∧ e = .returned (.int .i64 (-1))) ∨ (∃ k : Nat, k < l.length ∧ e = .returned (.int .i64 (k : Int)) ∧ ∀ y ∈ l, ¬ lt y (et l k))
def Bst (l : List Ent) (j : Nat) (b : Int) : Prop := (b = -1 ∧ j = 0) ∨ (∃ k : Nat, b = k ∧ k < j ∧ ∀ q, q < j → ¬ lt (et l q) (et l k))
theorem bst_new {l : List Ent} {j k : Nat} (h : ∀ q, q < j → ¬ lt (et l q) (et l k)) (hl : lt (et l j) (et l k)) : Bst l (j + 1) j :=
  .inr ⟨j, rfl, by omega, fun q hq hlt => by
    rcases Nat.lt_succ_iff_lt_or_eq.1 hq with h1 | rfl
    · exact h q h1 (lt_ord.tr _ _ _ hlt hl)
    · exact lt_ord.irr _ hlt⟩
theorem bst_keep {l : List Ent} {j k : Nat} (hk : k < j) (h : ∀ q, q < j → ¬ lt (et l q) (et l k)) (hl : ¬ lt (et l j) (et l k)) : Bst l (j + 1) k :=
  .inr ⟨k, rfl, by omega, fun q hq => by
    rcases Nat.lt_succ_iff_lt_or_eq.1 hq with h1 | rfl
    · exact h q h1
    · exact hl⟩
set_option maxRecDepth 100000 in
set_option maxHeartbeats 3200000 in
theorem first_calls {w : World} {a : Option Addr} {n c : Nat} {l : List Ent} (h : Er w a n c l) (hn : n ≤ 10000) :
    Calls Try.prog 15 #[.slice a n c] w fun e w' => FiOut l e ∧ Below w.heap.size w w' := by
  have HH := hid h
  have HL := hid h.len
  clear h
  go_enter Try.func15, Try.ntmps15
  go_wp2_with fail
  go_loopg [3, 7] n (fun r bv iv wr => ∃ (j : Nat) (b : Int), r = n - j ∧ iv = .int .i64 (j : Int) ∧ bv = .int .i64 b ∧ j ≤ n ∧ Hid (Bst l j b) ∧ Hid (Below w.heap.size w wr))
  case atStart => exact ⟨0, -1, rfl, rfl, rfl, by omega, hid (.inl ⟨rfl, rfl⟩), hid (Below.refl _ _)⟩
  case round =>
    obtain ⟨j, bb, rfl, rfl, rfl, hj, HT, HB⟩ := hrel
    by_cases hlt : j < n
    · have k1 : (j : Int) < n := by omega
      have k0 : (0 : Int) ≤ j := by omega
      have e2 : IntKind.i64.wrap ((j : Int) + 1) = j + 1 := i64_in (by omega) (by omega)
      obtain ⟨b, off, rfl, hbl, p0, p1, p2⟩ := (HH.out.below HB.out).at' hlt
      obtain ⟨⟨x0, x1, x2⟩, hx⟩ : ∃ x, et l j = x := ⟨_, rfl⟩
      rcases HT.out with ⟨rfl, hj0⟩ | ⟨k, rfl, hk, hq⟩
      · have T2 := hid (show Bst l (j + 1) j from .inr ⟨j, rfl, by omega, fun q hq => by
          obtain rfl : q = j := by omega
          exact lt_ord.irr _⟩)
        clear hj0 HT p0 p1 p2 hx
        go_wp2_with fail
        go_quiet (fail)
        have B2 := hid (below_drewN HB.out nq)
        go_wp2_with fail
        go_roundg (n - (j + 1))
        case measure => omega
        case rel => exact ⟨j + 1, j, rfl, by go_num, rfl, by omega, T2, B2⟩
      · obtain ⟨b', off', hab, _, q0, q1, q2⟩ := (HH.out.below HB.out).at' (i := k) (by omega)
        cases hab
        obtain ⟨⟨y0, y1, y2⟩, hy⟩ : ∃ x, et l k = x := ⟨_, rfl⟩
        rw [hx] at p0 p1 p2
        rw [hy] at q0 q1 q2
        simp only at p0 p1 p2 q0 q1 q2
        have k2 : (0 : Int) ≤ k := by omega
        have k3 : (k : Int) < n := by omega
        have k4 : ¬ (k : Int) < 0 := by omega
        have d0 : decide ((k : Int) < 0) = false := decide_eq_false k4
        have HW := hid (show (lt (et l j) (et l k) → Bst l (j + 1) j) ∧ (¬ lt (et l j) (et l k) → Bst l (j + 1) k) from ⟨bst_new hq, bst_keep hk hq⟩)
        rw [hx, hy] at HW
        clear hq HT hx hy
        by_cases h1 : x1 < y1
        · have T2 := hid (HW.out.1 (.inl h1))
          have d1 : decide (x1 < y1) = true := decide_eq_true h1
          clear HW
          go_wp2_with fail
          go_quiet (fail)
          have B2 := hid (below_drewN HB.out nq)
          go_wp2_with fail
          go_roundg (n - (j + 1))
          case measure => omega
          case rel => exact ⟨j + 1, j, rfl, by go_num, rfl, by omega, T2, B2⟩
        · have d1 : decide (x1 < y1) = false := decide_eq_false h1
          by_cases h2 : x1 = y1
          · have d2 : (x1 == y1) = true := by simpa using h2
            by_cases h3 : x0 < y0
            · have T2 := hid (HW.out.1 (.inr ⟨h2, h3⟩))
              have d3 : decide (x0 < y0) = true := decide_eq_true h3
              clear HW h2
              go_wp2_with fail
              go_quiet (fail)
              have B2 := hid (below_drewN HB.out nq)
              go_wp2_with fail
              go_roundg (n - (j + 1))
              case measure => omega
              case rel => exact ⟨j + 1, j, rfl, by go_num, rfl, by omega, T2, B2⟩
            · have T2 := hid (HW.out.2 (fun h => h.elim h1 (fun h => h3 h.2)))
              have d3 : decide (x0 < y0) = false := decide_eq_false h3
              clear HW h2
              go_wp2_with fail
              go_quiet (fail)
              have B2 := hid (below_drewN HB.out nq)
              go_wp2_with fail
              go_roundg (n - (j + 1))
              case measure => omega
              case rel => exact ⟨j + 1, k, rfl, by go_num, rfl, by omega, T2, B2⟩
          · have T2 := hid (HW.out.2 (fun h => h.elim h1 (fun h => h2 h.1)))
            have d2 : (x1 == y1) = false := by simpa using h2
            clear HW
            go_wp2_with fail
            go_quiet (fail)
            have B2 := hid (below_drewN HB.out nq)
            go_wp2_with fail
            go_roundg (n - (j + 1))
            case measure => omega
            case rel => exact ⟨j + 1, k, rfl, by go_num, rfl, by omega, T2, B2⟩
    · have k1 : ¬ ((j : Int) < n) := by omega
      have FN := hid (show FiOut l (.returned (.int .i64 bb)) from by
        rcases HT.out with ⟨rfl, hj0⟩ | ⟨k, rfl, hk, hq⟩
        · exact .inl ⟨List.eq_nil_of_length_eq_zero (by rw [HL.out]; omega), rfl⟩
        · exact .inr ⟨k, by rw [HL.out]; omega, rfl, fun y hy => by
            obtain ⟨i, hi, rfl⟩ := mem_et hy
            exact hq i (by rw [HL.out] at hi; omega)⟩)
      clear HT
      go_wp2_with fail
      go_ret
      exact ⟨FN.out, HB.out⟩
end Go.Proofs.Ytadkiikakgmpnaa
