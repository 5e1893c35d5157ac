/-
  A reader of points in memory; the walks of its methods end and has.
-/
import Derived.Test.YtiheagkgpbkkfaaDoorChecked
import Derived.Test.YtiheagkgpbkkfaaDoorScM
import Derived.Test.YtiheagkgpbkkfaaDoorBxF
import Derived.Test.YtiheagkgpbkkfaaDoorLotG
import Derived.Test.YtiheagkgpbkkfaaDoorLotC
import Derived.Test.YtiheagkgpbkkfaaDoorLotW
import Derived.Deep.LoopGhost
namespace Go.Proofs.YtiheagkgpbkkfaaDoor
open Go.RowKit
set_option linter.unusedVariables false
/-- What a reader reads, and where it lies. -/
structure Dt where
  o : Nat
  W : World
  ta : Option Addr
  tn : Nat
  tc : Nat
  L : Nat → Int
  H : Nat → Int
  C : Nat → Int
  bb : Nat
  bo : Nat
  bn : Nat
  bc : Nat
  f : Nat → Int
def Dt.ps (D : Dt) : List Int := Utf.pts D.f D.bn
def Dt.cl (D : Dt) (p : Int) : Int := Cl.of D.L D.H D.C D.tn p
/-- Is there a point of that number? Then so many have been read. -/
def Dt.hasB (D : Dt) (i : Nat) : Bool := decide (i < D.ps.length)
def Dt.hasM (D : Dt) (i : Nat) : Nat := if i < D.ps.length then i + 1 else 0
theorem Dt.has_yes {D : Dt} {i : Nat} (h : i < D.ps.length) : D.hasB i = true ∧ D.hasM i = i + 1 := ⟨decide_eq_true h, if_pos h⟩
theorem Dt.has_no {D : Dt} {i : Nat} (h : ¬ i < D.ps.length) : D.hasB i = false ∧ D.hasM i = 0 := ⟨decide_eq_false h, if_neg h⟩
def Dt.sm (D : Dt) (k : Nat) : Nat := Sc.sm D.f D.bn k
/-- Where the bytes of the first k points end. -/
def Dt.es (D : Dt) (k : Nat) : List Int := (List.range k).map fun i => (D.sm (i + 1) : Int)
theorem Dt.es_len (D : Dt) (k : Nat) : (D.es k).length = k := by simp [Dt.es]
theorem Dt.es_at (D : Dt) {k i : Nat} (h : i < k) : Pr.it (D.es k) i = (D.sm (i + 1) : Int) := by simp [Dt.es, Pr.it, h]
theorem Dt.es_snoc (D : Dt) (k : Nat) : D.es k ++ [(D.sm (k + 1) : Int)] = D.es (k + 1) := by unfold Dt.es; rw [List.range_succ, List.map_append]; rfl
theorem Dt.ps_snoc (D : Dt) {k : Nat} (h : k < D.ps.length) : D.ps.take k ++ [Pr.it D.ps k] = D.ps.take (k + 1) := by
  rw [List.take_add_one, Pr.it_get h]
  rfl
/-- Two rows that lie apart from each other, from a block, and from blocks X. -/
structure Ap (X : Nat → Prop) (o : Nat) (v1 v2 : Value) : Prop where
  n12 : v1.ownBlock = none ∨ v1.ownBlock ≠ v2.ownBlock
  n21 : v2.ownBlock = none ∨ v2.ownBlock ≠ v1.ownBlock
  o1 : v1.ownBlock ≠ some o
  o2 : v2.ownBlock ≠ some o
  x1 : ∀ g, v1.ownBlock = some g → ¬ X g
  x2 : ∀ g, v2.ownBlock = some g → ¬ X g
/-- A reader that has read k points; X: blocks that it never writes into. -/
structure Rd (D : Dt) (X : Nat → Prop) (w : World) (k : Nat) : Prop where
  ex : ∃ a1 c1 a2 c2, Bx4 w D.o 72 (.slice D.ta D.tn D.tc) (.slice (some ⟨D.bb, D.bo, none⟩) D.bn D.bc) (.slice a1 k c1) (.slice a2 k c2) ∧ w.ownsRow 0 3 1 (.slice a1 k c1) k (iv (D.ps.take k)) ∧ w.ownsRow 0 3 1 (.slice a2 k c2) k (iv (D.es k)) ∧ Ap X D.o (.slice a1 k c1) (.slice a2 k c2)
  kn : k ≤ D.ps.length
  no : ¬ X D.o
  lt : ∀ b, X b → b < w.heap.size
  old : Below D.W.heap.size D.W w
  xs : ∀ b, b < D.W.heap.size → X b
  tab : Rs D.W D.ta D.tn D.tc D.L D.H D.C
  byt : Sl D.W (some ⟨D.bb, D.bo, none⟩) D.bn D.bc D.f
  pos : 0 < D.bn
  small : D.bn ≤ 100000
/-- More has been read, at least m points; X's blocks are as they were. -/
def Gone (D : Dt) (X : Nat → Prop) (w : World) (k m : Nat) (w' : World) : Prop := ∃ k', k ≤ k' ∧ m ≤ k' ∧ Rd D X w' k' ∧ Mut (fun b => ¬ X b) w w'
section
variable {D : Dt} {X : Nat → Prop} {w : World} {k : Nat}
theorem Rd.bytes (h : Rd D X w k) : Sl w (some ⟨D.bb, D.bo, none⟩) D.bn D.bc D.f := h.byt.below h.old
theorem Rd.table (h : Rd D X w k) : Rs w D.ta D.tn D.tc D.L D.H D.C := h.tab.below h.old
theorem Rd.len (h : Rd D X w k) : D.ps.length ≤ D.bn := Utf.pts_len _ _ _ (Nat.le_refl _)
theorem Rd.below {w' : World} (h : Rd D X w k) (hb : Below w.heap.size w w') : Rd D X w' k := by
  obtain ⟨a1, c1, a2, c2, h1, h2, h3, h4⟩ := h.ex
  exact ⟨⟨a1, c1, a2, c2, h1.below hb h1.lt, own_below h2 hb, own_below h3 hb, h4⟩, h.kn, h.no, fun b hx => Nat.lt_of_lt_of_le (h.lt b hx) hb.size, h.old.trans (hb.mono h.old.size), h.xs, h.tab, h.byt, h.pos, h.small⟩
/-- Fewer blocks are looked after. -/
theorem Rd.weak {Y : Nat → Prop} (h : Rd D X w k) (hY : ∀ b, Y b → X b) (hW : ∀ b, b < D.W.heap.size → Y b) : Rd D Y w k := by
  obtain ⟨a1, c1, a2, c2, h1, h2, h3, h4⟩ := h.ex
  exact ⟨⟨a1, c1, a2, c2, h1, h2, h3, ⟨h4.n12, h4.n21, h4.o1, h4.o2, fun g e k => h4.x1 g e (hY _ k), fun g e k => h4.x2 g e (hY _ k)⟩⟩, h.kn, fun k => h.no (hY _ k), fun b hb => h.lt b (hY _ hb), h.old, hW, h.tab, h.byt, h.pos, h.small⟩
/-- A block that is laid now is looked after, too. -/
theorem Rd.laid (h : Rd D X w k) (ob : Obj) : Rd D (fun b => X b ∨ b = w.heap.size) (w.alloc ob) k := by
  obtain ⟨a1, c1, a2, c2, h1, h2, h3, h4⟩ := h.ex
  have hb : Below w.heap.size w (w.alloc ob) := (Below.refl _ w).alloc (Nat.le_refl _) ob
  refine ⟨⟨a1, c1, a2, c2, h1.alloc ob, h2.alloc ob, h3.alloc ob, ⟨h4.n12, h4.n21, h4.o1, h4.o2, fun g e k => ?_, fun g e k => ?_⟩⟩, h.kn, fun k => ?_, fun b hx => ?_, h.old.trans (hb.mono h.old.size), fun b hb => .inl (h.xs b hb), h.tab, h.byt, h.pos, h.small⟩
  · rcases k with k | k
    · exact h4.x1 g e k
    · have := (h2.lt g e).2; omega
  · rcases k with k | k
    · exact h4.x2 g e k
    · have := (h3.lt g e).2; omega
  · rcases k with k | k
    · exact h.no k
    · have := h1.lt; omega
  · rcases hx with hx | hx
    · have := h.lt b hx; simp; omega
    · subst hx; simp
theorem Gone.rd {m : Nat} {w' : World} (h : Gone D X w k m w') : ∃ k', k ≤ k' ∧ m ≤ k' ∧ Rd D X w' k' ∧ Mut (fun b => ¬ X b) w w' := h
theorem Gone.refl (h : Rd D X w k) : Gone D X w k k w := ⟨k, Nat.le_refl _, Nat.le_refl _, h, Mut.refl _ _⟩
theorem Gone.less {m m' : Nat} {w' : World} (h : Gone D X w k m w') (hm : m' ≤ m) : Gone D X w k m' w' := by
  obtain ⟨k', h1, h2, h3, h4⟩ := h
  exact ⟨k', h1, by omega, h3, h4⟩
theorem Gone.ofBelow {w' : World} (h : Rd D X w k) (hb : Below w.heap.size w w') : Gone D X w k k w' := ⟨k, Nat.le_refl _, Nat.le_refl _, h.below hb, Mut.ofBelow hb _⟩
/-- One after the other. -/
theorem Gone.step {k1 m m' : Nat} {w1 w2 : World} (h1 : k ≤ k1) (M1 : Mut (fun b => ¬ X b) w w1) (h2 : Gone D X w1 k1 m w2) (hm : m' ≤ m ∨ m' ≤ k1) : Gone D X w k m' w2 := by
  obtain ⟨k', a, b, c, d⟩ := h2
  exact ⟨k', by omega, by omega, c, M1.trans d (fun _ _ e => e)⟩
/-- Below what the reader leaves alone. -/
theorem Mut.keeps {w w' : World} {X : Nat → Prop} (h : Mut (fun b => ¬ X b) w w') {K : Nat} (hK : K ≤ w.heap.size) (hX : ∀ b, b < K → X b) : Below K w w' :=
  h.below hK (fun k hk => by
    rcases Nat.lt_or_ge k K with h1 | h1
    · exact absurd (hX k h1) hk
    · exact h1)
set_option maxRecDepth 100000 in
set_option maxHeartbeats 1600000 in
theorem end_calls (h : Rd D X w k) (m : Nat) (hm : m ≤ k) :
    Calls Tryd.prog 39 #[.pointer (some ⟨D.o, 0, none⟩), .int .i64 (m : Int)] w fun e w' => e = .returned (.int .i64 (D.sm m : Nat)) ∧ w' = w := by
  obtain ⟨a1, c1, a2, c2, h1, h2, h3, h4⟩ := h.ex
  have hk := h.kn
  have hl := h.len
  have hs := h.small
  have I := Ir.ofOwn' h3
  have d3 := h1.cell3
  have f3 := h1.fr 3
  clear h h1 h2 h3 h4
  go_enter Tryd.func39, Tryd.ntmps39
  by_cases h0 : m = 0
  · subst h0
    have hz := hid (show D.sm 0 = 0 from Sc.sm_zero _ _)
    go_wp2_with fail
    go_ret
    exact ⟨by rw [hz.out]; rfl, rfl⟩
  · obtain ⟨j, rfl⟩ : ∃ j, m = j + 1 := ⟨m - 1, by omega⟩
    obtain ⟨b, off, rfl, hlt, hc⟩ := I.at' (by omega)
    have p0 := hc j (by omega)
    rw [D.es_at (by omega)] at p0
    have e0 : (((j + 1 : Nat) : Int) == 0) = false := by rw [beq_eq_false_iff_ne]; omega
    have e1 : IntKind.i64.wrap (((j + 1 : Nat) : Int) - 1) = j := by rw [i64_in (by omega) (by omega)]; omega
    have e2 : IntKind.i64.wrap (j : Int) = j := i64_in (by omega) (by omega)
    have k1 : (j : Int) < k := by omega
    have k2 : (0 : Int) ≤ j := by omega
    obtain ⟨S, hS⟩ : ∃ S, D.sm (j + 1) = S := ⟨_, rfl⟩
    rw [hS] at p0 ⊢
    obtain ⟨J, hJ⟩ : ∃ J : Nat, J = j + 1 := ⟨_, rfl⟩
    rw [← hJ] at e0 e1 ⊢
    clear hc I hm hJ
    go_wp2_with fail
    go_ret
    exact ⟨rfl, rfl⟩
theorem own_app {w1 w2 : World} {v1 v1' v2 : Value} {o g : Nat} {ob : Obj} {n : Nat} {xs : List Value} (A : Ap X o v1 v2) (h2 : w.ownsRow 0 3 1 v2 n xs) (hX : ∀ b, X b → b < w1.heap.size) (ho : o < w1.heap.size) (h2' : ∀ g, v2.ownBlock = some g → g < w1.heap.size)
    (hb : v1'.ownBlock = v1.ownBlock ∨ v1'.ownBlock = some w1.heap.size) : Ap X o v1' v2 := by
  rcases hb with hb | hb
  · exact ⟨by rw [hb]; exact A.n12, by rw [hb]; exact A.n21, by rw [hb]; exact A.o1, A.o2, by rw [hb]; exact A.x1, A.x2⟩
  · refine ⟨.inr (fun e => ?_), ?_, by rw [hb]; intro e; have := Option.some.inj e; omega, A.o2, fun g e hx => ?_, A.x2⟩
    · rw [hb] at e
      have := h2' _ e.symm
      omega
    · cases hv : v2.ownBlock with
      | none => exact .inl rfl
      | some g => right; rw [hb]; intro e; have := Option.some.inj e; have := h2' g hv; omega
    · rw [hb] at e; have := Option.some.inj e; have := hX g hx; omega
theorem Ap.swap {v1 v2 : Value} {o : Nat} (A : Ap X o v1 v2) : Ap X o v2 v1 := ⟨A.n21, A.n12, A.o2, A.o1, A.x2, A.x1⟩
theorem drop_byt {w : World} {b off n cap : Nat} {f : Nat → Int} (h : Sl w (some ⟨b, off, none⟩) n cap f) (s : Nat) (hs : s < n) : Sl w (some ⟨b, off + s, none⟩) (n - s) (cap - s) (Utf.sh f s) := h.cut s hs
/-- Both rows have been appended to, and both cells written. -/
theorem has_fin {a1 a2 a3 a4 : Option Addr} {c1 c2 c3 c4 k : Nat} {w0 w1 w2 w3 w4 w5 w6 : World} {ob1 ob2 : Obj} (h : Rd D X w0 k)
    (h1 : Bx4 w0 D.o 72 (.slice D.ta D.tn D.tc) (.slice (some ⟨D.bb, D.bo, none⟩) D.bn D.bc) (.slice a1 k c1) (.slice a2 k c2)) (h2 : w0.ownsRow 0 3 1 (.slice a1 k c1) k (iv (D.ps.take k))) (h3 : w0.ownsRow 0 3 1 (.slice a2 k c2) k (iv (D.es k))) (A : Ap X D.o (.slice a1 k c1) (.slice a2 k c2))
    (hk : k < D.ps.length) (hw1 : w1 = w0.alloc ob1) (g2 : w1.grownBy w2 (Value.slice a1 k c1).ownBlock) (o2 : w2.ownsRow 0 3 1 (.slice a3 (k + 1) c3) (k + 1) (iv (D.ps.take k) ++ [.int .i64 (Pr.it D.ps k)])) (b2 : (Value.slice a3 (k + 1) c3).ownBlock = (Value.slice a1 k c1).ownBlock ∨ (Value.slice a3 (k + 1) c3).ownBlock = some w1.heap.size)
    (hw3 : w3 = w2.setCell ⟨D.o, 2, none⟩ (.slice a3 (k + 1) c3)) (hw4 : w4 = w3.alloc ob2) (g5 : w4.grownBy w5 (Value.slice a2 k c2).ownBlock) (o5 : w5.ownsRow 0 3 1 (.slice a4 (k + 1) c4) (k + 1) (iv (D.es k) ++ [.int .i64 (D.sm (k + 1) : Nat)])) (b5 : (Value.slice a4 (k + 1) c4).ownBlock = (Value.slice a2 k c2).ownBlock ∨ (Value.slice a4 (k + 1) c4).ownBlock = some w4.heap.size)
    (hw6 : w6 = w5.setCell ⟨D.o, 3, none⟩ (.slice a4 (k + 1) c4)) : Rd D X w6 (k + 1) ∧ Mut (fun b => ¬ X b) w0 w6 := by
  subst hw1 hw3 hw4 hw6
  have hs1 : (w0.alloc ob1).heap.size = w0.heap.size + 1 := by simp
  have hs2 := g2.size
  have hs3 : (w2.setCell ⟨D.o, 2, none⟩ (.slice a3 (k + 1) c3)).heap.size = w2.heap.size := by simp [World.setCell]
  have hs4 : ((w2.setCell ⟨D.o, 2, none⟩ (.slice a3 (k + 1) c3)).alloc ob2).heap.size = w2.heap.size + 1 := by simp [World.setCell]
  have hs5 := g5.size
  have hs6 : (w5.setCell ⟨D.o, 3, none⟩ (.slice a4 (k + 1) c4)).heap.size = w5.heap.size := by simp [World.setCell]
  have hol := h1.lt
  have A2 : Ap X D.o (.slice a3 (k + 1) c3) (.slice a2 k c2) := own_app (w1 := w0.alloc ob1) (g := 0) (ob := ob1) (w2 := w2) A h3 (fun b hb => by have := h.lt b hb; omega) (by omega) (fun g e => by have := (h3.lt g e).2; omega) b2
  have A3 : Ap X D.o (.slice a3 (k + 1) c3) (.slice a4 (k + 1) c4) := (own_app (w1 := (w2.setCell ⟨D.o, 2, none⟩ (.slice a3 (k + 1) c3)).alloc ob2) (g := 0) (ob := ob1) (w2 := w2) A2.swap o2 (fun b hb => by have := h.lt b hb; omega) (by omega) (fun g e => by have := (o2.lt g e).2; omega) b5).swap
  have B2 : Bx4 w2 D.o 72 (.slice D.ta D.tn D.tc) (.slice (some ⟨D.bb, D.bo, none⟩) D.bn D.bc) (.slice a1 k c1) (.slice a2 k c2) := (h1.alloc ob1).kept g2 (fun e => A.o1 e.symm)
  have B5 : Bx4 w5 D.o 72 (.slice D.ta D.tn D.tc) (.slice (some ⟨D.bb, D.bo, none⟩) D.bn D.bc) (.slice a3 (k + 1) c3) (.slice a2 k c2) := ((B2.set2 _).alloc ob2).kept g5 (fun e => A.o2 e.symm)
  have O1 : w5.ownsRow 0 3 1 (.slice a3 (k + 1) c3) (k + 1) (iv (D.ps.take k) ++ [.int .i64 (Pr.it D.ps k)]) := ((own_set o2 A3.o1 _).alloc ob2).kept g5 A2.n12
  have M6 : Mut (fun b => ¬ X b) w0 (w5.setCell ⟨D.o, 3, none⟩ (.slice a4 (k + 1) c4)) :=
    ((((((Mut.refl _ w0).alloc ob1).grown g2 (fun k e => A.x1 k e)).setCell D.o 2 _ h.no).alloc ob2).grown g5 (fun k e => A.x2 k e)).setCell D.o 3 _ h.no
  have e1 : iv (D.ps.take k) ++ [.int .i64 (Pr.it D.ps k)] = iv (D.ps.take (k + 1)) := by rw [← D.ps_snoc hk, ← iv_append]; rfl
  have e2 : iv (D.es k) ++ [.int .i64 (D.sm (k + 1) : Nat)] = iv (D.es (k + 1)) := by rw [← D.es_snoc k, ← iv_append]; rfl
  rw [e1] at O1
  rw [e2] at o5
  refine ⟨⟨⟨a3, c3, a4, c4, B5.set3 _, own_set O1 A3.o1 _, own_set o5 A3.o2 _, A3⟩, hk, h.no, fun b hb => by have := h.lt b hb; omega, h.old.trans (M6.keeps h.old.size h.xs), h.xs, h.tab, h.byt, h.pos, h.small⟩, M6⟩
set_option maxRecDepth 100000 in
set_option maxHeartbeats 800000 in
theorem has_calls (h : Rd D X w k) (i : Nat) (hi : i ≤ 1000000) :
    Calls Tryd.prog 56 #[.pointer (some ⟨D.o, 0, none⟩), .int .i64 (i : Int)] w fun e w' => e = .returned (.bool (D.hasB i)) ∧ Gone D X w k (D.hasM i) w' := by
  obtain ⟨i0, hi0, hz0, hz1, hz2⟩ := info_parts Tryd.info64
  have HR := hid h
  have hkn := h.kn
  have hl := h.len
  have hs := h.small
  clear h
  go_enter Tryd.func56, Tryd.ntmps56
  go_wp2_with fail
  go_loopg [] (D.ps.length - k) (fun r wr => ∃ j : Nat, r = D.ps.length - j ∧ k ≤ j ∧ j ≤ D.ps.length ∧ Hid (Rd D X wr j) ∧ Hid (Mut (fun b => ¬ X b) w wr))
  case atStart => exact ⟨k, rfl, Nat.le_refl _, hkn, HR, hid (Mut.refl _ _)⟩
  case round =>
    obtain ⟨j, rfl, hkj, hj, R1, M1⟩ := hrel
    obtain ⟨a1, c1, a2, c2, h1, h2, h3, h4⟩ := R1.out.ex
    have d2 := h1.cell2
    have d3 := h1.cell3
    have d1 := h1.cell1
    have f2 := h1.fr 2
    have f3 := h1.fr 3
    by_cases hij : i < j
    · have k1 : ¬ (j : Int) ≤ i := by omega
      have HY := hid (Dt.has_yes (D := D) (i := i) (by omega))
      have HG := hid (show Gone D X w k (D.hasM i) wr from ⟨j, hkj, by rw [HY.out.2]; omega, R1.out, M1.out⟩)
      clear h1 h2 h3 h4
      go_wp2_with fail
      go_ret
      exact ⟨ret_bool HY.out.1.symm, HG.out⟩
    · have k1 : (j : Int) ≤ i := by omega
      have HE := hid (end_calls R1.out j (Nat.le_refl _))
      have hle := hid (Sc.sm_le D.f D.bn j)
      by_cases hjn : j < D.ps.length
      · obtain ⟨hdec, hsm⟩ := Sc.dec_at (f := D.f) (n := D.bn) (k := j) hjn
        have hsl := hid (drop_byt R1.out.bytes (D.sm j) hsm)
        have hlt2 := Sc.sm_lt (f := D.f) (n := D.bn) (j := j) (k := j + 1) (by omega) hjn
        have hle2 := Sc.sm_le D.f D.bn (j + 1)
        have HB := R1.out.bytes.le
        have HMX := R1.out.bytes.mx
        unfold maxLen at HMX
        have HD := hid (show Utf.dec (Utf.sh D.f (D.sm j)) (D.bn - D.sm j) true = (Pr.it D.ps j, ((D.sm (j + 1) - D.sm j : Nat) : Int), false) from hdec)
        have hsm : D.sm j < D.bn := hsm
        have hlt2 : D.sm j < D.sm (j + 1) := hlt2
        have hle2 : D.sm (j + 1) ≤ D.bn := hle2
        have HX := hid h1
        have HO1 := hid h2
        have HO2 := hid h3
        have HA := hid h4
        have HJ := hid hjn
        obtain ⟨s, hs0⟩ : ∃ s, D.sm j = s := ⟨_, rfl⟩
        obtain ⟨t, ht0⟩ : ∃ t, D.sm (j + 1) - s = t := ⟨_, rfl⟩
        have HS := hid (show D.sm (j + 1) = s + t by omega)
        have HTT := hid (show D.sm j = s from hs0)
        obtain ⟨p, hp0⟩ : ∃ p, Pr.it D.ps j = p := ⟨_, rfl⟩
        rw [hs0, ht0, hp0] at HD
        rw [hs0] at hsl hsm HE
        have ht1 : 1 ≤ t := by omega
        have hst : s + t ≤ D.bn := by omega
        have q0 : (s : Int) ≤ D.bn := by omega
        have q1 : (0 : Int) ≤ s := by omega
        have q2 : ((t : Int) == 0) = false := by rw [beq_eq_false_iff_ne]; omega
        have q3 : IntKind.i64.wrap ((s : Int) + t) = s + t := i64_in (by omega) (by omega)
        have q4 : ¬ (D.bc = s) := by omega
        have HP := hid hp0
        clear hdec h1 h2 h3 h4 hle2 hlt2 hs0 ht0 hp0 hjn
        have hA1 := HA.out.o1
        have hA2 := HA.out.o2
        go_wp2_with fail
        refine HE.out.mono ?_
        rintro e wr ⟨rfl, rfl⟩
        go_wp2_with fail
        refine (decode_calls _ _ _ _ true _ hsl.out).mono ?_
        rintro e wr ⟨rfl, rfl⟩
        rw [HD.out]
        unfold D3
        clear HE HD hsl
        go_wp2_with (at_builtin; refine wpList_append_src rfl _ _ 23 rfl 0 3 i0 _ 1 8 Tryd.underlying23 hi0 hz0 hz1 hz2 rfl (by decide) (.slice a1 j c1) j (iv (D.ps.take j)) rfl (HO1.out.alloc _) (some ⟨wr.heap.size, 0, none⟩) 1 1 [.int .i64 p] rfl (Src.new #[.int .i64 p] 3 wr.heap.size rfl rfl (fun u hu => by simp at hu; subst hu; rfl)) (by unfold maxLen; omega) (by omega) (Nat.zero_le _) ?_)
        intro v2 w2 o2 g2 b2
        obtain ⟨a3, c3, rfl⟩ : ∃ a c, v2 = .slice a (j + 1) c := by
          rcases o2.2 with ⟨_, h0⟩ | ⟨g, cap, cur, rfl, _⟩
          · omega
          · exact ⟨_, cap, rfl⟩
        have X2 := hid (Bx4.kept (HX.out.alloc _) g2 (fun e => hA1 e.symm))
        have HO3 := hid o2
        have HG2 := hid g2
        have HB2 := hid (b2.imp id (fun e => e.trans (by simp)) : (Value.slice a3 (j + 1) c3).ownBlock = (Value.slice a1 j c1).ownBlock ∨ (Value.slice a3 (j + 1) c3).ownBlock = some (wr.alloc (.cells #[.int .i64 p] 3)).heap.size)
        have x2 := X2.out.cell2
        have z2 := X2.out.fr 2
        clear o2 g2 b2 d1 d2 d3 f2 f3
        have x3 := (X2.out.set2 (.slice a3 (j + 1) c3)).cell3
        have z3 := (X2.out.set2 (.slice a3 (j + 1) c3)).fr 3
        have A2 := own_app (w1 := wr.alloc (.cells #[.int .i64 p] 3)) (g := 0) (ob := .cells #[] 3) (w2 := w2) HA.out HO2.out (fun b hb => by have := R1.out.lt b hb; simp; omega) (by have := HX.out.lt; simp; omega) (fun g e => by have := (HO2.out.lt g e).2; simp; omega) HB2.out
        have HO4 := hid (own_set (j := 2) ((HO2.out.alloc (.cells #[.int .i64 p] 3)).kept HG2.out HA.out.n21) A2.o2 (.slice a3 (j + 1) c3))
        have HX4 := hid (X2.out.set2 (.slice a3 (j + 1) c3))
        clear A2
        go_wp2_with (at_builtin; go_loud (refine wpList_append_src rfl _ _ 23 rfl 0 3 i0 _ 1 8 Tryd.underlying23 hi0 hz0 hz1 hz2 rfl (by decide) (.slice a2 j c2) j (iv (D.es j)) rfl (HO4.out.alloc _) (some ⟨w2.heap.size, 0, none⟩) 1 1 [.int .i64 ((s : Int) + t)] rfl (Src.new #[.int .i64 ((s : Int) + t)] 3 _ (by simp [World.setCell]) rfl (fun u hu => by simp at hu; subst hu; rfl)) (by unfold maxLen; omega) (by omega) (Nat.zero_le _) ?_))
        intro v5 w5 o5 g5 b5
        obtain ⟨a4, c4, rfl⟩ : ∃ a c, v5 = .slice a (j + 1) c := by
          rcases o5.2 with ⟨_, h0⟩ | ⟨g, cap, cur, rfl, _⟩
          · omega
          · exact ⟨_, cap, rfl⟩
        have X5 := hid (Bx4.kept (HX4.out.alloc _) g5 (fun e => hA2 e.symm))
        have y3 := X5.out.cell3
        have t3 := X5.out.fr 3
        have HF := hid (has_fin R1.out HX.out HO1.out HO2.out HA.out HJ.out rfl HG2.out (by rw [HP.out]; exact HO3.out) HB2.out rfl rfl g5 (by rw [HS.out, Int.natCast_add]; exact o5) (b5.imp id (fun e => e.trans (by simp [World.setCell]))) rfl)
        clear o5 g5 b5 x2 x3 z2 z3
        go_wp2_with fail
        go_roundg (D.ps.length - (j + 1))
        case measure => have := HJ.out; omega
        case rel => exact ⟨j + 1, rfl, by omega, HJ.out, hid HF.out.1, hid (M1.out.trans HF.out.2 (fun _ _ e => e))⟩
      · obtain rfl : j = D.ps.length := by omega
        have HY := hid (Dt.has_no (D := D) (i := i) (by omega))
        have hsm : D.sm D.ps.length = D.bn := Sc.sm_all (Nat.le_refl _)
        have HB := R1.out.bytes.le
        have HMX := R1.out.bytes.mx
        unfold maxLen at HMX
        rw [hsm] at HE
        have HG := hid (show Gone D X w k (D.hasM i) wr from ⟨D.ps.length, hkj, by rw [HY.out.2]; omega, R1.out, M1.out⟩)
        obtain ⟨a', c', ha', hSl⟩ : ∃ a' c', (if D.bc = D.bn then Value.slice (some ⟨D.bb, D.bo, none⟩) 0 c' else .slice (some ⟨D.bb, D.bo + D.bn, none⟩) 0 c') = .slice a' 0 c' ∧ c' = D.bc - D.bn := by
          by_cases hf : D.bc = D.bn
          · exact ⟨_, D.bc - D.bn, by rw [if_pos hf], rfl⟩
          · exact ⟨_, D.bc - D.bn, by rw [if_neg hf], rfl⟩
        clear ha' hSl hsm
        obtain ⟨J, hJ⟩ : ∃ J, D.ps.length = J := ⟨_, rfl⟩
        rw [hJ] at d2 d3 k1 HE
        clear h1 h2 h3 h4
        by_cases hf : D.bc = D.bn
        · go_wp2_with fail
          refine HE.out.mono ?_
          rintro e wr ⟨rfl, rfl⟩
          go_wp2_with fail
          refine (decode_none _ _ true _).mono ?_
          rintro e wr ⟨rfl, rfl⟩
          go_wp2_with fail
          go_ret
          exact ⟨ret_bool HY.out.1.symm, HG.out⟩
        · go_wp2_with fail
          refine HE.out.mono ?_
          rintro e wr ⟨rfl, rfl⟩
          go_wp2_with fail
          refine (decode_none _ _ true _).mono ?_
          rintro e wr ⟨rfl, rfl⟩
          go_wp2_with fail
          go_ret
          exact ⟨ret_bool HY.out.1.symm, HG.out⟩
end
end Go.Proofs.YtiheagkgpbkkfaaDoor
