/-
  The walk of split.Split.
-/
import Derived.Test.YtiheagkgpbkkfaaDoorSpPb
namespace Go.Proofs.YtiheagkgpbkkfaaDoor
open Go.RowKit Go.Shelf
set_option linter.unusedVariables false
attribute [local go_sem] Oper.semAt_some
open Pr (it)
/-- What stands in memory between two rounds: the boxes, and the pieces so far. -/
def SpI (w : World) (B : Nat) (kind : Int) (ta : Option Addr) (tn tc : Nat) (fin : Bool) (X : List Int → Bool → Nat × Bool) (xs : List Int) (s : Nat) (W : World) : Prop :=
  (∃ ps : List (Nat × Bool), (∃ v, Boxed W B 26 v ∧ W.ownsRow w.heap.size 33 2 v ps.length (pcv ps) ∧ True) ∧ ps.length ≤ s ∧ Sp.sp X fin false xs = ps ++ Sp.sp X fin false (xs.drop s)) ∧
  ((Boxed W w.heap.size 3 (.int .i64 kind) ∧ Boxed W (w.heap.size + 1) 22 (.slice ta tn tc)) ∧ Boxed W (w.heap.size + 2) 4 (.bool fin)) ∧ Below w.heap.size w W
theorem spI_own {w : World} {B M : Nat} {kind : Int} {ta : Option Addr} {tn tc : Nat} {fin : Bool} {X : List Int → Bool → Nat × Bool} {xs : List Int} (hM : w.heap.size ≤ M) : OwnFrom M (SpI w B kind ta tn tc fin X xs) := by
  refine OwnFrom.and ?_ (OwnFrom.and (OwnFrom.and (OwnFrom.and (Own.from (boxed_own _ _ (fun _ => .int .i64 kind)) _) (Own.from (boxed_own _ _ (fun _ => .slice ta tn tc)) _)) (Own.from (boxed_own _ _ (fun _ => .bool fin)) _)) (ownFrom_below (Nat.le_refl _) hM))
  rintro s A C row ⟨ps, hv, h1, h2⟩ hg hr
  exact ⟨ps, holdsRow_own w.heap.size B 26 33 2 (fun ps : List (Nat × Bool) => ps.length) (fun ps => pcv ps) (fun _ _ => True) ps A C row hv hg (fun r e => (hr r e).2), h1, h2⟩
namespace Sp
theorem rl_bytes : ∀ (l : List Int), (∀ p ∈ l, isB p = true) → rl l = l.length
  | [], _ => rfl
  | x :: l, h => by
    have := rl_bytes l (fun p hp => h p (List.mem_cons_of_mem _ hp))
    unfold rl at this ⊢
    rw [Sc.tw_cons_yes (h x (List.mem_cons_self ..)), this]
    rfl
theorem run_rl (l : List Int) : rl (run l) = (run l).length := rl_bytes _ (rl_take l)
theorem run_whole {l : List Int} (h : rl l = l.length) : run l = l := by unfold run; rw [h, List.take_length]
/-- Up to the first mark. -/
theorem sp_to_mark {X : List Int → Bool → Nat × Bool} (hX : Cut X) (fin : Bool) {D : List Int} (h : rl D < D.length) : sp X fin false D = sp X true false (run D) ++ (1, true) :: sp X fin false (D.drop (rl D + 1)) := by
  have e : D = run D ++ it D (rl D) :: D.drop (rl D + 1) := by
    have h2 := List.getElem_cons_drop h
    have h3 : it D (rl D) = D[rl D] := by
      have := Pr.it_get h
      rw [List.getElem?_eq_getElem h] at this
      exact (Option.some.inj this).symm
    rw [h3, h2]
    exact (List.take_append_drop _ _).symm
  have hm := sp_marks hX fin (rl_stop h) (D.drop (rl D + 1)) _ (run D) (Nat.le_refl _)
  rw [← e] at hm
  rw [hm]
  congr 1
  exact (List.map_congr_left (g := id) (fun p hp => (Prod.ext rfl (sp_fin hX _ _ (Nat.le_refl _) p hp).symm : (p.1, true) = p))).trans (List.map_id _)
end Sp
theorem keeps_below {A B : World} (h : Below A.heap.size A B) : KeepsOthers A B := ⟨h.size, fun k o hk _ => (h.block k (Array.getElem?_eq_some_iff.1 hk).1).trans hk⟩
/-- A box's slice, grown and stored again. -/
theorem boxed_pushed {W w1 : World} {n0 B : Nat} {t e : TypeId} {size k m : Nat} {v v' : Value} {xs ys : List Value} (hb : Boxed W B t v) (hte : t ≠ e) (hrow : W.ownsRow n0 e size v k xs) (hB : n0 ≤ B) (hn0 : n0 ≤ W.heap.size) (ho : w1.ownsRow n0 e size v' m ys) (hg : W.grownBy w1 v.ownBlock) :
    Boxed w1 B t v ∧ Boxed (w1.setCell ⟨B, 0, none⟩ v') B t v' ∧ (w1.setCell ⟨B, 0, none⟩ v').ownsRow n0 e size v' m ys ∧ KeepsOthers W (w1.setCell ⟨B, 0, none⟩ v') ∧ Below n0 W (w1.setCell ⟨B, 0, none⟩ v') ∧
      (∀ B' t' u, B' ≠ B → t' ≠ e → Boxed W B' t' u → Boxed w1 B' t' u ∧ Boxed (w1.setCell ⟨B, 0, none⟩ v') B' t' u) := by
  have h1 : Boxed w1 B t v := hb.kept hg (hb.not_row hte hrow)
  refine ⟨h1, h1.set v', ho.kept (grownBy_setCell' w1 B v') (.inr (h1.not_row hte ho).symm), ?_, ?_, fun B' t' u hne ht hu => ?_⟩
  · refine (KeepsOthers.of_grownBy hg fun j o ej hj => ?_).trans (KeepsOthers.setCell _ _ _)
    rcases hrow.2 with ⟨rfl, _⟩ | ⟨g, cap, cur, rfl, _, hgb, _⟩
    · simp [Value.ownBlock] at ej
    · obtain rfl : g = j := by simpa [Value.ownBlock] using ej
      rw [hgb] at hj; cases hj; rfl
  · exact ((Below.refl n0 W).grown hg hn0 (fun j ej => (hrow.lt j ej).1)).setCell (p := ⟨B, 0, none⟩) hB v'
  · have h2 : Boxed w1 B' t' u := hu.kept hg (hu.not_row ht hrow)
    exact ⟨h2, h2.other hne v'⟩
theorem Sl.put {A : World} {a : Option Addr} {n c : Nat} {f : Nat → Int} (h : Sl A a n c f) {k : Nat} {o : Obj} (o' : Obj) (hk : A.heap[k]? = some o) (hc : o.isCells = false) : Sl (A.putObj k o') a n c f :=
  ⟨h.le, h.mx, h.bd, h.nil, fun h0 => by
    obtain ⟨b, off, rfl, hlt, hcell⟩ := h.at' h0
    exact ⟨b, off, rfl, by simpa using hlt, fun i hi => cell_kept (hcell i hi) (grownBy_putObj' A k o') (fun r e => by cases e; exact ⟨o, hk, hc⟩)⟩⟩
theorem RunAt.put {xs : List Int} {s t : Nat} {x : Array Value} {A : World} (h : RunAt xs s x t A) {k : Nat} {o : Obj} (o' : Obj) (hk : A.heap[k]? = some o) (hc : o.isCells = false) : RunAt xs s x t (A.putObj k o') := by
  obtain ⟨ba, bc, m, hm, hS, hw⟩ := h
  exact ⟨ba, bc, m, hm, hS.put o' hk hc, hw⟩
theorem RunAt.two {xs : List Int} {s t : Nat} {x : Array Value} {A : World} (h : RunAt xs s x t A) : x.size = 2 := by
  obtain ⟨ba, bc, m, hm, hS, hw⟩ := h
  rcases hw with ⟨_, rfl, _⟩ | ⟨_, rfl, _⟩ <;> rfl
theorem below_put {n k : Nat} {A : World} (o : Obj) (h : n ≤ k) : Below n A (A.putObj k o) := ⟨rfl, rfl, rfl, by simp, fun j hj => World.putObj_heap_other (by omega)⟩
theorem boxed_below {A B : World} {k n : Nat} {t : TypeId} {v : Value} (h : Boxed A k t v) (hb : Below n A B) (hk : k < n) : Boxed B k t v := (hb.block k hk).trans h
set_option maxRecDepth 100000 in
set_option maxHeartbeats 6400000 in
theorem split_yes_calls {w : World} {ta a : Option Addr} {tn tc n c : Nat} {L H C : Nat → Int} {xs : Pr.Row} (kd : Nat) (hk : kd ≤ 3) (hm : Cl.may L H C tn = true) (hT : Rs w ta tn tc L H C) (hX : Ir w a n c xs) (fin : Bool) (hn : n ≤ 100000) (hE : Ends w) :
    Calls Tryd.prog 10 #[.int .i64 (kd : Nat), .slice ta tn tc, .slice a n c, .bool fin] w fun e w' => PcOut w (Sp.sp (Sp.Xk (Cl.of L H C tn) kd) fin false xs) e w' := by
  obtain ⟨i0, hi0, hz0, hz1, hz2⟩ := info_parts Tryd.infoPc
  have hL := hX.len
  have k1 : ¬ (kd : Int) < 0 := by omega
  have k2 : ¬ 3 < (kd : Int) := by omega
  obtain ⟨w0, hw0⟩ : ∃ w0, ((w.alloc (.cells #[.int .i64 (kd : Nat)] 3)).alloc (.cells #[.slice ta tn tc] 22)).alloc (.cells #[.bool fin] 4) = w0 := ⟨_, rfl⟩
  have b0 : Below w.heap.size w w0 := by
    rw [← hw0]
    exact (((Below.refl w.heap.size w).alloc (Nat.le_refl _) _).alloc (by simp) _).alloc (by simp; omega) _
  have x1 : Boxed w0 w.heap.size 3 (.int .i64 (kd : Nat)) := by rw [← hw0]; exact ((Boxed.new w _ _).alloc _).alloc _
  have x2 : Boxed w0 (w.heap.size + 1) 22 (.slice ta tn tc) := by
    rw [← hw0]
    have := (Boxed.new (w.alloc (.cells #[.int .i64 (kd : Nat)] 3)) 22 (.slice ta tn tc)).alloc (.cells #[.bool fin] 4)
    rwa [World.size_alloc] at this
  have x3 : Boxed w0 (w.heap.size + 2) 4 (.bool fin) := by
    rw [← hw0]
    have := Boxed.new ((w.alloc (.cells #[.int .i64 (kd : Nat)] 3)).alloc (.cells #[.slice ta tn tc] 22)) 4 (.bool fin)
    rwa [World.size_alloc, World.size_alloc] at this
  have c1 := x1.cell
  have c2 := x2.cell
  have HW0 := hid hw0
  have sz0 : w0.heap.size = w.heap.size + 3 := by rw [← hw0]; simp
  refine (callsIn_wide (n := 8)).1 ?_
  refine callsIn_of_wp_marks Tryd.func10 rfl trivial ?_ rfl
  simp only [Tryd.ntmps10, List.size_toArray, List.length_cons, List.length_nil, Nat.reduceAdd, Nat.reduceSub, Array.replicate_succ, Array.replicate_zero, List.push_toArray, List.append_toArray, List.nil_append, List.cons_append]
  gi_wp2_with fail
  refine ⟨trivial, ?_⟩
  refine (callsIn_wide.2 (may_calls ta tn tc L H C w0 (hT.below b0))).mono ?_
  rintro e w1 ⟨rfl, b1⟩
  rw [hm]
  have sz1 := b1.size
  have y1 := boxed_below x1 b1 (Boxed.lt x1)
  have y2 := boxed_below x2 b1 (Boxed.lt x2)
  have y3 := boxed_below x3 b1 (Boxed.lt x3)
  have b01 := b0.trans (b1.mono b0.size)
  gi_wp2_with fail
  refine ⟨trivial, ?_⟩
  refine (runs_in _ a n c _).mono ?_
  rintro e w2 ⟨rfl, rfl⟩
  gi_wp2_with fail
  obtain ⟨w3, hw3⟩ : ∃ w3, (w1.alloc (.cells #[.slice none 0 0] 26)).alloc (.cells #[.slice a n c] 23) = w3 := ⟨_, rfl⟩
  have sz3 : w3.heap.size = w1.heap.size + 2 := by rw [← hw3]; simp
  have b3 : Below w.heap.size w w3 := by rw [← hw3]; exact (b01.alloc b01.size _).alloc (by simp; omega) _
  have z4 : Boxed w3 w1.heap.size 26 (.slice none 0 0) := by rw [← hw3]; exact (Boxed.new w1 _ _).alloc _
  have z5 : Boxed w3 (w1.heap.size + 1) 23 (.slice a n c) := by
    rw [← hw3]
    have := Boxed.new (w1.alloc (.cells #[.slice none 0 0] 26)) 23 (.slice a n c)
    rwa [World.size_alloc] at this
  have z1 : Boxed w3 w.heap.size 3 (.int .i64 (kd : Nat)) := by rw [← hw3]; exact (y1.alloc _).alloc _
  have z2 : Boxed w3 (w.heap.size + 1) 22 (.slice ta tn tc) := by rw [← hw3]; exact (y2.alloc _).alloc _
  have z3 : Boxed w3 (w.heap.size + 2) 4 (.bool fin) := by rw [← hw3]; exact (y3.alloc _).alloc _
  simp only [hw3]
  clear hw3 hw0
  refine hands_range (gf := 28) (lb := #[.pointer (some ⟨w1.heap.size + 1, 0, none⟩)]) rfl (by omega) rfl trivial (enters_of Tryd.func28 (by kernel_rfl) rfl)
    (runs_hands _ (by omega) (w1.heap.size + 1) hX hn b3 z5) (Below.refl _ _) (fun h k => h.trans k) (fun A k o hk => below_put o (by omega)) (fun s x t A k o o' h _ hk hc => h.put o' hk hc) (fun s x t A h => h.two)
    (SpI w w1.heap.size kd ta tn tc fin (Sp.Xk (Cl.of L H C tn) kd) xs) (spI_own (by omega)) ⟨⟨[], ⟨_, z4, World.ownsRow_nil _ _ _ _, trivial⟩, Nat.le_refl _, rfl⟩, ⟨⟨z1, z2⟩, z3⟩, b3⟩ ?round ?done
  case round =>
    rintro l s x t W ⟨⟨ps, ⟨v, bv, hv, _⟩, hpl, hsp⟩, ⟨⟨u1, u2⟩, u3⟩, hB⟩ ⟨ba, bc, m, rfl, hSl, hw⟩
    rcases hw with ⟨hlt, rfl, rfl⟩ | ⟨heq, rfl, rfl⟩
    · refine ⟨_, fun A K hK => by gi_wp2_with fail; exact hK, ?_⟩
      have hcut := cut_calls (w := W.drew) (s := Sp.run (xs.drop s)) (bc := bc) (ba := ba) kd hk (hT.below hB.drew) hm (by rw [Sp.run_length]; exact hSl.below (Below.refl _ _).drew) (Sp.run_rl _) (by rw [Sp.run_length]; have := Sp.rl_le (xs.drop s); rw [List.length_drop] at this; omega) (hE.below hB.drew (Nat.le_refl _)) true
      rw [Sp.run_length] at hcut
      have HCUT := hid hcut
      have sB := hB.size
      have hps2 := Sp.length_le_total (Sp.Xk_cut (Cl.of_rg L H C tn) hk) true false _ (Sp.run (xs.drop s)) (Nat.le_refl _) false
      rw [Sp.run_length] at hps2
      obtain ⟨ps2, hp2⟩ : ∃ ps2, Sp.sp (Sp.Xk (Cl.of L H C tn) kd) true false (Sp.run (xs.drop s)) = ps2 := ⟨_, rfl⟩
      rw [hp2] at HCUT hps2
      have HP2 := hid hp2
      have HSP := hid hsp
      obtain ⟨m, hmm⟩ : ∃ m, Sp.rl (xs.drop s) = m := ⟨_, rfl⟩
      rw [hmm] at HCUT hps2
      rw [hmm] at hlt
      simp only [hmm]
      have HMM := hid hmm
      clear hcut hp2 hsp hSl hmm
      gi_wp2_with fail
      refine region_round (fun W' => W'.cell? ⟨w.heap.size, 0, none⟩ = some (.int .i64 (kd : Nat)) ∧ W'.cell? ⟨w.heap.size + 1, 0, none⟩ = some (.slice ta tn tc) ∧ W'.cell? ⟨w.heap.size + 1 + 1, 0, none⟩ = some (.bool fin)) (by kernel_rfl) (by kernel_rfl) (fun ⟨_, _, h⟩ => h) ⟨u1.cell, u2.cell, u3.cell⟩ (fun hS => ?_)
      refine wpAnyH_take (i := 3) (oi := { dst := some 30, op := Op.move (Operand.tmp 10), type := 37, pos := _, after := _, guard := none }) (v := .slice ba m bc) rfl (by kernel_rfl) (by kernel_rfl) (by kernel_rfl) (fun _ _ _ h => h) (Or.inl ⟨by rfl, fun W' hW' => by obtain ⟨h1, h2, h3⟩ := hW'; go_simp⟩) hS ?_
      simp only [Act.put, List.setIfInBounds_toArray, List.set_cons_zero, List.set_cons_succ]
      refine wpAnyH_take (i := 4) (oi := { dst := some 31, op := Op.move (Operand.tmp 11), type := 4, pos := _, after := _, guard := none }) (v := .bool true) rfl (by kernel_rfl) (by kernel_rfl) (by kernel_rfl) (fun _ _ _ h => h) (Or.inl ⟨by rfl, fun W' hW' => by obtain ⟨h1, h2, h3⟩ := hW'; go_simp⟩) hS ?_
      simp only [Act.put, List.setIfInBounds_toArray, List.set_cons_zero, List.set_cons_succ]
      refine wpAnyH_take (i := 5) (oi := { dst := some 32, op := Op.move (Operand.tmp 31), type := 4, pos := _, after := _, guard := none }) (v := .bool true) rfl (by kernel_rfl) (by kernel_rfl) (by kernel_rfl) (fun _ _ _ h => h) (Or.inl ⟨by rfl, fun W' hW' => by obtain ⟨h1, h2, h3⟩ := hW'; go_simp⟩) hS ?_
      simp only [Act.put, List.setIfInBounds_toArray, List.set_cons_zero, List.set_cons_succ]
      refine wpAnyH_take (i := 1) (oi := { dst := some 28, op := Op.load 3 (Operand.tmp 4), type := 3, pos := _, after := _, guard := none }) (v := .int .i64 (kd : Nat)) rfl (by kernel_rfl) (by kernel_rfl) (by kernel_rfl) (fun _ _ _ h => h) (Or.inl ⟨by rfl, fun W' hW' => by obtain ⟨h1, h2, h3⟩ := hW'; go_simp⟩) hS ?_
      simp only [Act.put, List.setIfInBounds_toArray, List.set_cons_zero, List.set_cons_succ]
      refine wpAnyH_take (i := 2) (oi := { dst := some 29, op := Op.load 22 (Operand.tmp 5), type := 22, pos := _, after := _, guard := none }) (v := .slice ta tn tc) rfl (by kernel_rfl) (by kernel_rfl) (by kernel_rfl) (fun _ _ _ h => h) (Or.inl ⟨by rfl, fun W' hW' => by obtain ⟨h1, h2, h3⟩ := hW'; go_simp⟩) hS ?_
      simp only [Act.put, List.setIfInBounds_toArray, List.set_cons_zero, List.set_cons_succ]
      refine wpAnyH_take (i := 6) (oi := { dst := some 33, op := Op.load 4 (Operand.tmp 7), type := 4, pos := _, after := _, guard := some (5, false) }) (v := undef) rfl (by kernel_rfl) (by kernel_rfl) (by kernel_rfl) (fun _ _ _ h => h) (Or.inr ⟨by rfl, rfl⟩) hS ?_
      simp only [Act.put, List.setIfInBounds_toArray, List.set_cons_zero, List.set_cons_succ]
      refine wpAnyH_take (i := 7) (oi := { dst := some 34, op := Op.pick (Operand.tmp 32) (Operand.const (Value.bool true)) (Operand.tmp 33), type := 4, pos := _, after := _, guard := none }) (v := .bool true) rfl (by kernel_rfl) (by kernel_rfl) (by kernel_rfl) (fun _ _ _ h => h) (Or.inl ⟨by rfl, fun W' hW' => by obtain ⟨h1, h2, h3⟩ := hW'; go_simp⟩) hS ?_
      simp only [Act.put, List.setIfInBounds_toArray, List.set_cons_zero, List.set_cons_succ]
      refine wpAnyH_ready (rs := [0, 8]) (by kernel_rfl) (by simp) ?_
      have g0 := Boxed.cell bv
      refine AllReadyH.cons (o := { dst := some 27, op := Op.load 26 (Operand.tmp 9), type := 26, pos := _, after := _, guard := none }) rfl (fun K1 hK1 => ?_) (AllReadyH.cons (o := { dst := some 35, op := Op.call { callee := Callee.value (Operand.func 23), args := #[Operand.tmp 28, Operand.tmp 29, Operand.tmp 30, Operand.tmp 34], argTypes := #[3, 22, 37, 4] }, type := 26, pos := _, after := _, guard := none }) rfl (fun K1 hK1 => ?_) AllReadyH.nil)
      · go_simp
        refine hK1.out _ _ hS (fun _ => ?_)
        clear hK1 K1
        refine wpAnyH_ready (rs := [8]) (by kernel_rfl) (by simp) ?_
        refine AllReadyH.cons (o := { dst := some 35, op := Op.call { callee := Callee.value (Operand.func 23), args := #[Operand.tmp 28, Operand.tmp 29, Operand.tmp 30, Operand.tmp 34], argTypes := #[3, 22, 37, 4] }, type := 26, pos := _, after := _, guard := none }) rfl (fun K1 hK1 => ?_) AllReadyH.nil
        refine step_call_any (R := fun v w' => w'.ownsRow W.drew.heap.size 33 2 v ps2.length (pcv ps2) ∧ Below W.drew.heap.size W.drew w') (by rfl) 23 _ _ (by rfl) #[.int .i64 (kd : Nat), .slice ta tn tc, .slice ba m bc, .bool true] (by rfl) (by kernel_rfl) HCUT.out ?_
        rintro v2 w2 ⟨o2, b2⟩
        have b22 : Below W.heap.size W w2 := (Below.refl _ W).drew.trans b2
        obtain ⟨a2, cc2, rfl, p2⟩ := Pc.ofOwn o2
        have bv2 := boxed_below bv b22 (Boxed.lt bv)
        have f1 := boxed_below u1 b22 (Boxed.lt u1)
        have f2 := boxed_below u2 b22 (Boxed.lt u2)
        have f3 := boxed_below u3 b22 (Boxed.lt u3)
        have hv2 := own_below hv b22
        have s2 := b22.size
        have g2 := Boxed.cell bv2
        refine hK1.out _ _ ⟨Boxed.cell f1, Boxed.cell f2, Boxed.cell f3⟩ (fun hS2 => ?_)
        clear hK1 K1
        refine wpAnyH_ready (rs := [9]) (by kernel_rfl) (by simp) ?_
        refine AllReadyH.cons (o := { dst := some 36, op := Op.call { callee := Callee.builtin Builtin.append, args := #[Operand.tmp 27, Operand.tmp 35], argTypes := #[26, 26] }, type := 26, pos := _, after := _, guard := none }) rfl (fun K1 hK1 => ?_) AllReadyH.nil
        refine step_append_src (by rfl) _ _ 26 (by rfl) w.heap.size 33 i0 _ 2 16 Tryd.underlying26 hi0 hz0 hz1 hz2 rfl (by decide) v ps.length (pcv ps) (by rfl) hv2 a2 ps2.length cc2 (pcv ps2) (by rfl) p2.src (by unfold maxLen; omega) (by omega) (by omega) ?_
        intro v4 w4 ho4 hg4 _
        rw [pcv_append] at ho4
        obtain ⟨a4, cc4, rfl, _⟩ := Pc.ofOwn ho4
        obtain ⟨q1, q2, q3, q4, q5, q6⟩ := boxed_pushed bv2 (by decide) hv2 (show w.heap.size ≤ w1.heap.size by omega) (by omega) ho4 hg4
        have r1 := q6 w.heap.size 3 _ (by omega) (by decide) f1
        have r2 := q6 (w.heap.size + 1) 22 _ (by omega) (by decide) f2
        have r3 := q6 (w.heap.size + 2) 4 _ (by omega) (by decide) f3
        have g4 := Boxed.cell q1
        have g5 := Boxed.frozen q1
        refine hK1.out _ _ ⟨Boxed.cell r1.1, Boxed.cell r2.1, Boxed.cell r3.1⟩ (fun hS4 => ?_)
        clear hK1 K1
        refine wpAnyH_ready (rs := [10]) (by kernel_rfl) (by simp) ?_
        refine AllReadyH.cons (o := { dst := none, op := Op.store 26 (Operand.tmp 9) (Operand.tmp 36), type := 0, pos := _, after := _, guard := none }) rfl (fun K1 hK1 => ?_) AllReadyH.nil
        go_simp
        refine hK1.out _ _ ⟨Boxed.cell r1.2, Boxed.cell r2.2, Boxed.cell r3.2⟩ (fun hS5 => ?_)
        clear hK1 K1
        refine wpAnyH_done (by kernel_rfl) ?_ _
        have KF := ((KeepsOthers.drew W).trans (keeps_below b2)).trans q4
        have BF := (b22.mono (show w.heap.size ≤ W.heap.size from hB.size)).trans q5
        have R1 := hid r1.2
        have R2 := hid r2.2
        have R3 := hid r3.2
        obtain ⟨w5, hw5⟩ : ∃ w5, w4.setCell ⟨w1.heap.size, 0, none⟩ (.slice a4 (ps.length + ps2.length) cc4) = w5 := ⟨_, rfl⟩
        rw [hw5] at q2 q3 KF BF R1 R2 R3
        simp only [hw5]
        have g6 := Boxed.cell q2
        have s5 := BF.size
        clear q1 q4 q5 q6 r1 r2 r3 ho4 hg4 hw5 hS hS2 hS4 hS5 g2 g4 g5 HCUT o2 p2 b2 f1 f2 f3 hv2 bv2
        gi_wp2_with (gi_at_builtin; refine wpListIn_append_src rfl _ _ 26 rfl w.heap.size 33 i0 _ 2 16 Tryd.underlying26 hi0 hz0 hz1 hz2 rfl (by decide) _ _ _ rfl (q3.alloc _) (some ⟨w5.heap.size, 0, none⟩) 1 1 [.int .i64 1, .bool true] rfl (src_pc 1 true _) (by unfold maxLen; omega) (by omega) (by simp; omega) ?_; intro v6 w6 ho6 hg6 _; obtain ⟨g6, cap6, rfl⟩ := ownsRow_succ ho6; obtain ⟨j1, j2, j3, j4, j5⟩ := Boxed.appended q2 (by decide) q3 (show w.heap.size ≤ w5.heap.size by omega) (show w.heap.size ≤ w1.heap.size by omega) ho6 hg6; have j6 := Boxed.cell j1; have j7 := Boxed.frozen j1)
        have kb : ∀ (k : Nat) (t : TypeId) (u : Value), k ≠ w1.heap.size → t ≠ 33 → Boxed w5 k t u → Boxed (w6.setCell ⟨w1.heap.size, 0, none⟩ (.slice (some ⟨g6, 0, none⟩) (ps.length + ps2.length + 1) cap6)) k t u := fun k t u hne ht hu => (block_appended hg6 (Boxed.lt hu) (fun e => Boxed.not_row hu ht q3 e.symm) hne).trans hu
        refine ⟨(KF.trans j4).from _, BF.trans j5, ⟨ps ++ ps2 ++ [(1, true)], ⟨_, j2, ?_, trivial⟩, by simp only [List.length_append, List.length_cons, List.length_nil]; omega, ?_⟩, ⟨⟨kb _ _ _ (by omega) (by decide) R1.out, kb _ _ _ (by omega) (by decide) R2.out⟩, kb _ _ _ (by omega) (by decide) R3.out⟩, hB.trans (BF.trans j5)⟩
        · rw [← pcv_snoc, List.length_append, List.length_append]
          exact j3
        · have hD := Sp.sp_to_mark (Sp.Xk_cut (Cl.of_rg L H C tn) hk) fin (D := xs.drop s) (by rw [HMM.out, List.length_drop]; omega)
          rw [HP2.out, HMM.out, List.drop_drop] at hD
          rw [HSP.out, hD, List.append_assoc, List.append_assoc]
          rfl
      · refine step_call_any (R := fun v w' => w'.ownsRow W.drew.heap.size 33 2 v ps2.length (pcv ps2) ∧ Below W.drew.heap.size W.drew w') (by rfl) 23 _ _ (by rfl) #[.int .i64 (kd : Nat), .slice ta tn tc, .slice ba m bc, .bool true] (by rfl) (by kernel_rfl) HCUT.out ?_
        rintro v2 w2 ⟨o2, b2⟩
        have b22 : Below W.heap.size W w2 := (Below.refl _ W).drew.trans b2
        obtain ⟨a2, cc2, rfl, p2⟩ := Pc.ofOwn o2
        have bv2 := boxed_below bv b22 (Boxed.lt bv)
        have f1 := boxed_below u1 b22 (Boxed.lt u1)
        have f2 := boxed_below u2 b22 (Boxed.lt u2)
        have f3 := boxed_below u3 b22 (Boxed.lt u3)
        have hv2 := own_below hv b22
        have s2 := b22.size
        have g2 := Boxed.cell bv2
        refine hK1.out _ _ ⟨Boxed.cell f1, Boxed.cell f2, Boxed.cell f3⟩ (fun hS2 => ?_)
        clear hK1 K1
        refine wpAnyH_ready (rs := [0]) (by kernel_rfl) (by simp) ?_
        refine AllReadyH.cons (o := { dst := some 27, op := Op.load 26 (Operand.tmp 9), type := 26, pos := _, after := _, guard := none }) rfl (fun K1 hK1 => ?_) AllReadyH.nil
        go_simp
        refine hK1.out _ _ hS2 (fun _ => ?_)
        clear hK1 K1
        refine wpAnyH_ready (rs := [9]) (by kernel_rfl) (by simp) ?_
        refine AllReadyH.cons (o := { dst := some 36, op := Op.call { callee := Callee.builtin Builtin.append, args := #[Operand.tmp 27, Operand.tmp 35], argTypes := #[26, 26] }, type := 26, pos := _, after := _, guard := none }) rfl (fun K1 hK1 => ?_) AllReadyH.nil
        refine step_append_src (by rfl) _ _ 26 (by rfl) w.heap.size 33 i0 _ 2 16 Tryd.underlying26 hi0 hz0 hz1 hz2 rfl (by decide) v ps.length (pcv ps) (by rfl) hv2 a2 ps2.length cc2 (pcv ps2) (by rfl) p2.src (by unfold maxLen; omega) (by omega) (by omega) ?_
        intro v4 w4 ho4 hg4 _
        rw [pcv_append] at ho4
        obtain ⟨a4, cc4, rfl, _⟩ := Pc.ofOwn ho4
        obtain ⟨q1, q2, q3, q4, q5, q6⟩ := boxed_pushed bv2 (by decide) hv2 (show w.heap.size ≤ w1.heap.size by omega) (by omega) ho4 hg4
        have r1 := q6 w.heap.size 3 _ (by omega) (by decide) f1
        have r2 := q6 (w.heap.size + 1) 22 _ (by omega) (by decide) f2
        have r3 := q6 (w.heap.size + 2) 4 _ (by omega) (by decide) f3
        have g4 := Boxed.cell q1
        have g5 := Boxed.frozen q1
        refine hK1.out _ _ ⟨Boxed.cell r1.1, Boxed.cell r2.1, Boxed.cell r3.1⟩ (fun hS4 => ?_)
        clear hK1 K1
        refine wpAnyH_ready (rs := [10]) (by kernel_rfl) (by simp) ?_
        refine AllReadyH.cons (o := { dst := none, op := Op.store 26 (Operand.tmp 9) (Operand.tmp 36), type := 0, pos := _, after := _, guard := none }) rfl (fun K1 hK1 => ?_) AllReadyH.nil
        go_simp
        refine hK1.out _ _ ⟨Boxed.cell r1.2, Boxed.cell r2.2, Boxed.cell r3.2⟩ (fun hS5 => ?_)
        clear hK1 K1
        refine wpAnyH_done (by kernel_rfl) ?_ _
        have KF := ((KeepsOthers.drew W).trans (keeps_below b2)).trans q4
        have BF := (b22.mono (show w.heap.size ≤ W.heap.size from hB.size)).trans q5
        have R1 := hid r1.2
        have R2 := hid r2.2
        have R3 := hid r3.2
        obtain ⟨w5, hw5⟩ : ∃ w5, w4.setCell ⟨w1.heap.size, 0, none⟩ (.slice a4 (ps.length + ps2.length) cc4) = w5 := ⟨_, rfl⟩
        rw [hw5] at q2 q3 KF BF R1 R2 R3
        simp only [hw5]
        have g6 := Boxed.cell q2
        have s5 := BF.size
        clear q1 q4 q5 q6 r1 r2 r3 ho4 hg4 hw5 hS hS2 hS4 hS5 g2 g4 g5 HCUT o2 p2 b2 f1 f2 f3 hv2 bv2
        gi_wp2_with (gi_at_builtin; refine wpListIn_append_src rfl _ _ 26 rfl w.heap.size 33 i0 _ 2 16 Tryd.underlying26 hi0 hz0 hz1 hz2 rfl (by decide) _ _ _ rfl (q3.alloc _) (some ⟨w5.heap.size, 0, none⟩) 1 1 [.int .i64 1, .bool true] rfl (src_pc 1 true _) (by unfold maxLen; omega) (by omega) (by simp; omega) ?_; intro v6 w6 ho6 hg6 _; obtain ⟨g6, cap6, rfl⟩ := ownsRow_succ ho6; obtain ⟨j1, j2, j3, j4, j5⟩ := Boxed.appended q2 (by decide) q3 (show w.heap.size ≤ w5.heap.size by omega) (show w.heap.size ≤ w1.heap.size by omega) ho6 hg6; have j6 := Boxed.cell j1; have j7 := Boxed.frozen j1)
        have kb : ∀ (k : Nat) (t : TypeId) (u : Value), k ≠ w1.heap.size → t ≠ 33 → Boxed w5 k t u → Boxed (w6.setCell ⟨w1.heap.size, 0, none⟩ (.slice (some ⟨g6, 0, none⟩) (ps.length + ps2.length + 1) cap6)) k t u := fun k t u hne ht hu => (block_appended hg6 (Boxed.lt hu) (fun e => Boxed.not_row hu ht q3 e.symm) hne).trans hu
        refine ⟨(KF.trans j4).from _, BF.trans j5, ⟨ps ++ ps2 ++ [(1, true)], ⟨_, j2, ?_, trivial⟩, by simp only [List.length_append, List.length_cons, List.length_nil]; omega, ?_⟩, ⟨⟨kb _ _ _ (by omega) (by decide) R1.out, kb _ _ _ (by omega) (by decide) R2.out⟩, kb _ _ _ (by omega) (by decide) R3.out⟩, hB.trans (BF.trans j5)⟩
        · rw [← pcv_snoc, List.length_append, List.length_append]
          exact j3
        · have hD := Sp.sp_to_mark (Sp.Xk_cut (Cl.of_rg L H C tn) hk) fin (D := xs.drop s) (by rw [HMM.out, List.length_drop]; omega)
          rw [HP2.out, HMM.out, List.drop_drop] at hD
          rw [HSP.out, hD, List.append_assoc, List.append_assoc]
          rfl
    · refine ⟨_, fun A K hK => by gi_wp2_with fail; exact hK, ?_⟩
      have hcut := cut_calls (w := W.drew) (s := Sp.run (xs.drop s)) (bc := bc) (ba := ba) kd hk (hT.below hB.drew) hm (by rw [Sp.run_length]; exact hSl.below (Below.refl _ _).drew) (Sp.run_rl _) (by rw [Sp.run_length]; have := Sp.rl_le (xs.drop s); rw [List.length_drop] at this; omega) (hE.below hB.drew (Nat.le_refl _)) fin
      rw [Sp.run_length] at hcut
      have HCUT := hid hcut
      have sB := hB.size
      have hps2 := Sp.length_le_total (Sp.Xk_cut (Cl.of_rg L H C tn) hk) fin false _ (Sp.run (xs.drop s)) (Nat.le_refl _) false
      rw [Sp.run_length] at hps2
      obtain ⟨ps2, hp2⟩ : ∃ ps2, Sp.sp (Sp.Xk (Cl.of L H C tn) kd) fin false (Sp.run (xs.drop s)) = ps2 := ⟨_, rfl⟩
      rw [hp2] at HCUT hps2
      have HP2 := hid hp2
      have HSP := hid hsp
      obtain ⟨m, hmm⟩ : ∃ m, Sp.rl (xs.drop s) = m := ⟨_, rfl⟩
      rw [hmm] at HCUT hps2
      rw [hmm] at heq
      simp only [hmm]
      have HMM := hid hmm
      clear hcut hp2 hsp hSl hmm
      gi_wp2_with fail
      refine region_round (fun W' => W'.cell? ⟨w.heap.size, 0, none⟩ = some (.int .i64 (kd : Nat)) ∧ W'.cell? ⟨w.heap.size + 1, 0, none⟩ = some (.slice ta tn tc) ∧ W'.cell? ⟨w.heap.size + 1 + 1, 0, none⟩ = some (.bool fin)) (by kernel_rfl) (by kernel_rfl) (fun ⟨_, _, h⟩ => h) ⟨u1.cell, u2.cell, u3.cell⟩ (fun hS => ?_)
      refine wpAnyH_take (i := 3) (oi := { dst := some 30, op := Op.move (Operand.tmp 10), type := 37, pos := _, after := _, guard := none }) (v := .slice ba m bc) rfl (by kernel_rfl) (by kernel_rfl) (by kernel_rfl) (fun _ _ _ h => h) (Or.inl ⟨by rfl, fun W' hW' => by obtain ⟨h1, h2, h3⟩ := hW'; go_simp⟩) hS ?_
      simp only [Act.put, List.setIfInBounds_toArray, List.set_cons_zero, List.set_cons_succ]
      refine wpAnyH_take (i := 4) (oi := { dst := some 31, op := Op.move (Operand.tmp 11), type := 4, pos := _, after := _, guard := none }) (v := .bool false) rfl (by kernel_rfl) (by kernel_rfl) (by kernel_rfl) (fun _ _ _ h => h) (Or.inl ⟨by rfl, fun W' hW' => by obtain ⟨h1, h2, h3⟩ := hW'; go_simp⟩) hS ?_
      simp only [Act.put, List.setIfInBounds_toArray, List.set_cons_zero, List.set_cons_succ]
      refine wpAnyH_take (i := 5) (oi := { dst := some 32, op := Op.move (Operand.tmp 31), type := 4, pos := _, after := _, guard := none }) (v := .bool false) rfl (by kernel_rfl) (by kernel_rfl) (by kernel_rfl) (fun _ _ _ h => h) (Or.inl ⟨by rfl, fun W' hW' => by obtain ⟨h1, h2, h3⟩ := hW'; go_simp⟩) hS ?_
      simp only [Act.put, List.setIfInBounds_toArray, List.set_cons_zero, List.set_cons_succ]
      refine wpAnyH_take (i := 1) (oi := { dst := some 28, op := Op.load 3 (Operand.tmp 4), type := 3, pos := _, after := _, guard := none }) (v := .int .i64 (kd : Nat)) rfl (by kernel_rfl) (by kernel_rfl) (by kernel_rfl) (fun _ _ _ h => h) (Or.inl ⟨by rfl, fun W' hW' => by obtain ⟨h1, h2, h3⟩ := hW'; go_simp⟩) hS ?_
      simp only [Act.put, List.setIfInBounds_toArray, List.set_cons_zero, List.set_cons_succ]
      refine wpAnyH_take (i := 2) (oi := { dst := some 29, op := Op.load 22 (Operand.tmp 5), type := 22, pos := _, after := _, guard := none }) (v := .slice ta tn tc) rfl (by kernel_rfl) (by kernel_rfl) (by kernel_rfl) (fun _ _ _ h => h) (Or.inl ⟨by rfl, fun W' hW' => by obtain ⟨h1, h2, h3⟩ := hW'; go_simp⟩) hS ?_
      simp only [Act.put, List.setIfInBounds_toArray, List.set_cons_zero, List.set_cons_succ]
      refine wpAnyH_take (i := 6) (oi := { dst := some 33, op := Op.load 4 (Operand.tmp 7), type := 4, pos := _, after := _, guard := some (5, false) }) (v := .bool fin) rfl (by kernel_rfl) (by kernel_rfl) (by kernel_rfl) (fun _ _ _ h => h) (Or.inl ⟨by rfl, fun W' hW' => by obtain ⟨h1, h2, h3⟩ := hW'; go_simp⟩) hS ?_
      simp only [Act.put, List.setIfInBounds_toArray, List.set_cons_zero, List.set_cons_succ]
      refine wpAnyH_take (i := 7) (oi := { dst := some 34, op := Op.pick (Operand.tmp 32) (Operand.const (Value.bool true)) (Operand.tmp 33), type := 4, pos := _, after := _, guard := none }) (v := .bool fin) rfl (by kernel_rfl) (by kernel_rfl) (by kernel_rfl) (fun _ _ _ h => h) (Or.inl ⟨by rfl, fun W' hW' => by obtain ⟨h1, h2, h3⟩ := hW'; go_simp⟩) hS ?_
      simp only [Act.put, List.setIfInBounds_toArray, List.set_cons_zero, List.set_cons_succ]
      refine wpAnyH_ready (rs := [0, 8]) (by kernel_rfl) (by simp) ?_
      have g0 := Boxed.cell bv
      refine AllReadyH.cons (o := { dst := some 27, op := Op.load 26 (Operand.tmp 9), type := 26, pos := _, after := _, guard := none }) rfl (fun K1 hK1 => ?_) (AllReadyH.cons (o := { dst := some 35, op := Op.call { callee := Callee.value (Operand.func 23), args := #[Operand.tmp 28, Operand.tmp 29, Operand.tmp 30, Operand.tmp 34], argTypes := #[3, 22, 37, 4] }, type := 26, pos := _, after := _, guard := none }) rfl (fun K1 hK1 => ?_) AllReadyH.nil)
      · go_simp
        refine hK1.out _ _ hS (fun _ => ?_)
        clear hK1 K1
        refine wpAnyH_ready (rs := [8]) (by kernel_rfl) (by simp) ?_
        refine AllReadyH.cons (o := { dst := some 35, op := Op.call { callee := Callee.value (Operand.func 23), args := #[Operand.tmp 28, Operand.tmp 29, Operand.tmp 30, Operand.tmp 34], argTypes := #[3, 22, 37, 4] }, type := 26, pos := _, after := _, guard := none }) rfl (fun K1 hK1 => ?_) AllReadyH.nil
        refine step_call_any (R := fun v w' => w'.ownsRow W.drew.heap.size 33 2 v ps2.length (pcv ps2) ∧ Below W.drew.heap.size W.drew w') (by rfl) 23 _ _ (by rfl) #[.int .i64 (kd : Nat), .slice ta tn tc, .slice ba m bc, .bool fin] (by rfl) (by kernel_rfl) HCUT.out ?_
        rintro v2 w2 ⟨o2, b2⟩
        have b22 : Below W.heap.size W w2 := (Below.refl _ W).drew.trans b2
        obtain ⟨a2, cc2, rfl, p2⟩ := Pc.ofOwn o2
        have bv2 := boxed_below bv b22 (Boxed.lt bv)
        have f1 := boxed_below u1 b22 (Boxed.lt u1)
        have f2 := boxed_below u2 b22 (Boxed.lt u2)
        have f3 := boxed_below u3 b22 (Boxed.lt u3)
        have hv2 := own_below hv b22
        have s2 := b22.size
        have g2 := Boxed.cell bv2
        refine hK1.out _ _ ⟨Boxed.cell f1, Boxed.cell f2, Boxed.cell f3⟩ (fun hS2 => ?_)
        clear hK1 K1
        refine wpAnyH_ready (rs := [9]) (by kernel_rfl) (by simp) ?_
        refine AllReadyH.cons (o := { dst := some 36, op := Op.call { callee := Callee.builtin Builtin.append, args := #[Operand.tmp 27, Operand.tmp 35], argTypes := #[26, 26] }, type := 26, pos := _, after := _, guard := none }) rfl (fun K1 hK1 => ?_) AllReadyH.nil
        refine step_append_src (by rfl) _ _ 26 (by rfl) w.heap.size 33 i0 _ 2 16 Tryd.underlying26 hi0 hz0 hz1 hz2 rfl (by decide) v ps.length (pcv ps) (by rfl) hv2 a2 ps2.length cc2 (pcv ps2) (by rfl) p2.src (by unfold maxLen; omega) (by omega) (by omega) ?_
        intro v4 w4 ho4 hg4 _
        rw [pcv_append] at ho4
        obtain ⟨a4, cc4, rfl, _⟩ := Pc.ofOwn ho4
        obtain ⟨q1, q2, q3, q4, q5, q6⟩ := boxed_pushed bv2 (by decide) hv2 (show w.heap.size ≤ w1.heap.size by omega) (by omega) ho4 hg4
        have r1 := q6 w.heap.size 3 _ (by omega) (by decide) f1
        have r2 := q6 (w.heap.size + 1) 22 _ (by omega) (by decide) f2
        have r3 := q6 (w.heap.size + 2) 4 _ (by omega) (by decide) f3
        have g4 := Boxed.cell q1
        have g5 := Boxed.frozen q1
        refine hK1.out _ _ ⟨Boxed.cell r1.1, Boxed.cell r2.1, Boxed.cell r3.1⟩ (fun hS4 => ?_)
        clear hK1 K1
        refine wpAnyH_ready (rs := [10]) (by kernel_rfl) (by simp) ?_
        refine AllReadyH.cons (o := { dst := none, op := Op.store 26 (Operand.tmp 9) (Operand.tmp 36), type := 0, pos := _, after := _, guard := none }) rfl (fun K1 hK1 => ?_) AllReadyH.nil
        go_simp
        refine hK1.out _ _ ⟨Boxed.cell r1.2, Boxed.cell r2.2, Boxed.cell r3.2⟩ (fun hS5 => ?_)
        clear hK1 K1
        refine wpAnyH_done (by kernel_rfl) ?_ _
        have KF := ((KeepsOthers.drew W).trans (keeps_below b2)).trans q4
        have BF := (b22.mono (show w.heap.size ≤ W.heap.size from hB.size)).trans q5
        have R1 := hid r1.2
        have R2 := hid r2.2
        have R3 := hid r3.2
        obtain ⟨w5, hw5⟩ : ∃ w5, w4.setCell ⟨w1.heap.size, 0, none⟩ (.slice a4 (ps.length + ps2.length) cc4) = w5 := ⟨_, rfl⟩
        rw [hw5] at q2 q3 KF BF R1 R2 R3
        simp only [hw5]
        have g6 := Boxed.cell q2
        have s5 := BF.size
        clear q1 q4 q5 q6 r1 r2 r3 ho4 hg4 hw5 hS hS2 hS4 hS5 g2 g4 g5 HCUT o2 p2 b2 f1 f2 f3 hv2 bv2
        gi_wp2_with fail
        refine ⟨KF.from _, BF, ⟨ps ++ ps2, ⟨_, q2, by rw [List.length_append]; exact q3, trivial⟩, by rw [List.length_append]; omega, ?_⟩, ⟨⟨R1.out, R2.out⟩, R3.out⟩, hB.trans BF⟩
        have hD := Sp.run_whole (l := xs.drop s) (by rw [HMM.out, List.length_drop]; omega)
        have h2 := HP2.out
        rw [hD] at h2
        rw [HSP.out, h2, List.drop_eq_nil_of_le (show xs.length ≤ xs.length + 1 by omega), Sp.sp_nil, List.append_nil]
      · refine step_call_any (R := fun v w' => w'.ownsRow W.drew.heap.size 33 2 v ps2.length (pcv ps2) ∧ Below W.drew.heap.size W.drew w') (by rfl) 23 _ _ (by rfl) #[.int .i64 (kd : Nat), .slice ta tn tc, .slice ba m bc, .bool fin] (by rfl) (by kernel_rfl) HCUT.out ?_
        rintro v2 w2 ⟨o2, b2⟩
        have b22 : Below W.heap.size W w2 := (Below.refl _ W).drew.trans b2
        obtain ⟨a2, cc2, rfl, p2⟩ := Pc.ofOwn o2
        have bv2 := boxed_below bv b22 (Boxed.lt bv)
        have f1 := boxed_below u1 b22 (Boxed.lt u1)
        have f2 := boxed_below u2 b22 (Boxed.lt u2)
        have f3 := boxed_below u3 b22 (Boxed.lt u3)
        have hv2 := own_below hv b22
        have s2 := b22.size
        have g2 := Boxed.cell bv2
        refine hK1.out _ _ ⟨Boxed.cell f1, Boxed.cell f2, Boxed.cell f3⟩ (fun hS2 => ?_)
        clear hK1 K1
        refine wpAnyH_ready (rs := [0]) (by kernel_rfl) (by simp) ?_
        refine AllReadyH.cons (o := { dst := some 27, op := Op.load 26 (Operand.tmp 9), type := 26, pos := _, after := _, guard := none }) rfl (fun K1 hK1 => ?_) AllReadyH.nil
        go_simp
        refine hK1.out _ _ hS2 (fun _ => ?_)
        clear hK1 K1
        refine wpAnyH_ready (rs := [9]) (by kernel_rfl) (by simp) ?_
        refine AllReadyH.cons (o := { dst := some 36, op := Op.call { callee := Callee.builtin Builtin.append, args := #[Operand.tmp 27, Operand.tmp 35], argTypes := #[26, 26] }, type := 26, pos := _, after := _, guard := none }) rfl (fun K1 hK1 => ?_) AllReadyH.nil
        refine step_append_src (by rfl) _ _ 26 (by rfl) w.heap.size 33 i0 _ 2 16 Tryd.underlying26 hi0 hz0 hz1 hz2 rfl (by decide) v ps.length (pcv ps) (by rfl) hv2 a2 ps2.length cc2 (pcv ps2) (by rfl) p2.src (by unfold maxLen; omega) (by omega) (by omega) ?_
        intro v4 w4 ho4 hg4 _
        rw [pcv_append] at ho4
        obtain ⟨a4, cc4, rfl, _⟩ := Pc.ofOwn ho4
        obtain ⟨q1, q2, q3, q4, q5, q6⟩ := boxed_pushed bv2 (by decide) hv2 (show w.heap.size ≤ w1.heap.size by omega) (by omega) ho4 hg4
        have r1 := q6 w.heap.size 3 _ (by omega) (by decide) f1
        have r2 := q6 (w.heap.size + 1) 22 _ (by omega) (by decide) f2
        have r3 := q6 (w.heap.size + 2) 4 _ (by omega) (by decide) f3
        have g4 := Boxed.cell q1
        have g5 := Boxed.frozen q1
        refine hK1.out _ _ ⟨Boxed.cell r1.1, Boxed.cell r2.1, Boxed.cell r3.1⟩ (fun hS4 => ?_)
        clear hK1 K1
        refine wpAnyH_ready (rs := [10]) (by kernel_rfl) (by simp) ?_
        refine AllReadyH.cons (o := { dst := none, op := Op.store 26 (Operand.tmp 9) (Operand.tmp 36), type := 0, pos := _, after := _, guard := none }) rfl (fun K1 hK1 => ?_) AllReadyH.nil
        go_simp
        refine hK1.out _ _ ⟨Boxed.cell r1.2, Boxed.cell r2.2, Boxed.cell r3.2⟩ (fun hS5 => ?_)
        clear hK1 K1
        refine wpAnyH_done (by kernel_rfl) ?_ _
        have KF := ((KeepsOthers.drew W).trans (keeps_below b2)).trans q4
        have BF := (b22.mono (show w.heap.size ≤ W.heap.size from hB.size)).trans q5
        have R1 := hid r1.2
        have R2 := hid r2.2
        have R3 := hid r3.2
        obtain ⟨w5, hw5⟩ : ∃ w5, w4.setCell ⟨w1.heap.size, 0, none⟩ (.slice a4 (ps.length + ps2.length) cc4) = w5 := ⟨_, rfl⟩
        rw [hw5] at q2 q3 KF BF R1 R2 R3
        simp only [hw5]
        have g6 := Boxed.cell q2
        have s5 := BF.size
        clear q1 q4 q5 q6 r1 r2 r3 ho4 hg4 hw5 hS hS2 hS4 hS5 g2 g4 g5 HCUT o2 p2 b2 f1 f2 f3 hv2 bv2
        gi_wp2_with fail
        refine ⟨KF.from _, BF, ⟨ps ++ ps2, ⟨_, q2, by rw [List.length_append]; exact q3, trivial⟩, by rw [List.length_append]; omega, ?_⟩, ⟨⟨R1.out, R2.out⟩, R3.out⟩, hB.trans BF⟩
        have hD := Sp.run_whole (l := xs.drop s) (by rw [HMM.out, List.length_drop]; omega)
        have h2 := HP2.out
        rw [hD] at h2
        rw [HSP.out, h2, List.drop_eq_nil_of_le (show xs.length ≤ xs.length + 1 by omega), Sp.sp_nil, List.append_nil]
  case done =>
    rintro D W hD ⟨⟨ps, ⟨v, bv, hv, _⟩, hpl, hsp⟩, ⟨⟨u1, u2⟩, u3⟩, hB⟩ hK
    have hc := bv.cell
    rw [List.drop_eq_nil_of_le (by omega), Sp.sp_nil, List.append_nil] at hsp
    have HSP := hid hsp
    clear hsp
    gi_wp2_with fail
    refine ⟨by simp, .inl ⟨_, _, rfl, run_takeDeferred hK, ?_⟩⟩
    exact ⟨_, results_tmp rfl _ _ _, v, rfl, by rw [HSP.out]; exact ownsRow_putObj hv (.deferred none) hK rfl, hB.trans (belowK_b (w := w) (Nat.le_refl _) W D _ _ (by omega) hK rfl rfl)⟩
theorem split_calls {w : World} {ta a : Option Addr} {tn tc n c : Nat} {L H C : Nat → Int} {xs : Pr.Row} (kind : Int) (hT : Rs w ta tn tc L H C) (hX : Ir w a n c xs) (fin : Bool) (hn : n ≤ 100000) (hE : Ends w) :
    Calls Tryd.prog 10 #[.int .i64 kind, .slice ta tn tc, .slice a n c, .bool fin] w fun e w' => PcOut w (Sp.cutL (Cl.of L H C tn) (Cl.may L H C tn) kind fin xs) e w' := by
  by_cases h : 0 ≤ kind ∧ kind ≤ 3 ∧ Cl.may L H C tn = true
  · obtain ⟨h1, h2, hm⟩ := h
    obtain ⟨kd, rfl⟩ : ∃ kd : Nat, kind = kd := ⟨kind.toNat, by omega⟩
    rw [hm, Sp.cutL_yes (by omega)]
    exact split_yes_calls kd (by omega) hm hT hX fin hn hE
  · rw [Sp.cutL_no h]
    exact split_no_calls kind hT h fin
theorem sdecided_calls {w : World} {ta a : Option Addr} {tn tc n c : Nat} {L H C : Nat → Int} {xs : Pr.Row} (kind : Int) (hT : Rs w ta tn tc L H C) (hX : Ir w a n c xs) (hn : n ≤ 100000) (hE : Ends w) :
    Calls Tryd.prog 13 #[.int .i64 kind, .slice ta tn tc, .slice a n c] w fun e w' => e = .returned (.int .i64 (Sp.dsum (Sp.cutL (Cl.of L H C tn) (Cl.may L H C tn) kind false xs) : Nat)) ∧ Below w.heap.size w w' :=
  sdec_calls kind hT hX hn (split_calls kind hT hX false hn hE)
end Go.Proofs.YtiheagkgpbkkfaaDoor
