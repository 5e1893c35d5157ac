/-
  The walk of line.Words.
-/
import Derived.Test.YthemaacfjmcbnaaDoorLnL
namespace Go.Proofs.YthemaacfjmcbnaaDoor
open Go.RowKit Go.Shelf
set_option linter.unusedVariables false
attribute [local go_sem] Oper.semAt_some

theorem mk_nil : mk [] = ⟨#[]⟩ := rfl
theorem empty_yes {x : ByteArray} (h : x = ⟨#[]⟩) : x.toList.isEmpty = true ∧ x.toList = [] := by subst h; rw [by_toList]; exact ⟨rfl, rfl⟩
theorem empty_no {x : ByteArray} (h : x ≠ ⟨#[]⟩) : x.toList.isEmpty = false ∧ ¬ x.toList = [] := by
  have : ¬ x.toList = [] := fun e => h (by_inj (by rw [← by_toList, e]; rfl))
  exact ⟨by cases hx : x.toList with | nil => exact absurd hx this | cons => rfl, this⟩
/-- The words of a line are all of its pieces, none of which is empty. -/
def WGood (s : ByteArray) : Prop := Ln.words (by_ s) = Ln.pcs 32 [] (by_ s)
theorem wgood {s : ByteArray} (h : ∀ x ∈ ps 32 s, x ≠ ⟨#[]⟩) : WGood s :=
  Ln.words_good fun x hx e => h (mk x) (List.mem_map.2 ⟨x, hx, rfl⟩) (by rw [e]; rfl)
theorem wbad {s : ByteArray} {q : List ByteArray} (h : q ++ [⟨#[]⟩] <+: ps 32 s) : Ln.words (by_ s) = [] := by
  have hm : (⟨#[]⟩ : ByteArray) ∈ ps 32 s := h.subset (by simp)
  obtain ⟨x, hx, hx2⟩ := List.mem_map.1 hm
  have : x = [] := mk_inj hx2
  subst this
  unfold Ln.words
  rw [if_pos hx]
/-- What Words answers. -/
def WOut (s : ByteArray) (e : Ending) (w' : World) : Prop :=
  (WGood s ∧ ∃ a k cap, e = .returned (.tuple #[.slice a k cap, .bool true]) ∧ Ts w' a k cap (ps 32 s)) ∨
  (Ln.words (by_ s) = [] ∧ e = .returned (.tuple #[.slice none 0 0, .bool false]))

set_option maxRecDepth 100000 in
set_option maxHeartbeats 3200000 in
theorem words_calls (s : ByteArray) (w : World) (hsz : s.size ≤ 100000) :
    Calls Tryd.prog 32 #[.string s] w fun e w' => WOut s e w' ∧ Below w.heap.size w w' := by
  obtain ⟨i0, hi, hz0, hz1, hz2⟩ := info_parts Tryd.infoS
  have hpl := ps_len 32 s
  refine (callsIn_wide (n := 8)).1 ?_
  refine callsIn_of_wp_marks Tryd.func32 rfl trivial ?_ rfl
  simp only [Tryd.ntmps32, List.size_toArray, List.length_cons, List.length_nil, Nat.reduceAdd, Nat.reduceSub, Array.replicate_succ, Array.replicate_zero, List.push_toArray, List.append_toArray, List.nil_append, List.cons_append]
  gi_wp2_with fail
  refine ⟨trivial, ?_⟩
  refine (parts_in _ s 32 _).mono ?_
  rintro e w' ⟨rfl, rfl⟩
  gi_wp2_with fail
  obtain ⟨w1, hw1⟩ : ∃ w1, w.alloc (.cells #[.slice none 0 0] 47) = w1 := ⟨_, rfl⟩
  obtain ⟨w2, hw2⟩ : ∃ w2, w1.alloc (.cells #[.bool false] 4) = w2 := ⟨_, rfl⟩
  obtain ⟨w3, hw3⟩ : ∃ w3, w2.alloc (.cells #[.slice none 0 0] 47) = w3 := ⟨_, rfl⟩
  obtain ⟨w4, hw4⟩ : ∃ w4, w3.alloc (.cells #[.string s] 9) = w4 := ⟨_, rfl⟩
  obtain ⟨w5, hw5⟩ : ∃ w5, w4.alloc (.cells #[.int .u8 32] 5) = w5 := ⟨_, rfl⟩
  have s1 : w1.heap.size = w.heap.size + 1 := by rw [← hw1]; simp
  have s2 : w2.heap.size = w.heap.size + 2 := by rw [← hw2]; simp [s1]
  have s3 : w3.heap.size = w.heap.size + 3 := by rw [← hw3]; simp [s2]
  have s4 : w4.heap.size = w.heap.size + 4 := by rw [← hw4]; simp [s3]
  have s5 : w5.heap.size = w.heap.size + 5 := by rw [← hw5]; simp [s4]
  have bR : Boxed w5 w.heap.size 47 (.slice none 0 0) := by
    rw [← hw5, ← hw4, ← hw3, ← hw2, ← hw1]; exact ((((Boxed.new w _ _).alloc _).alloc _).alloc _).alloc _
  have bB : Boxed w5 (w.heap.size + 1) 4 (.bool false) := by
    rw [← hw5, ← hw4, ← hw3, ← hw2, ← s1]; exact (((Boxed.new w1 _ _).alloc _).alloc _).alloc _
  have bO : Boxed w5 (w.heap.size + 2) 47 (.slice none 0 0) := by
    rw [← hw5, ← hw4, ← hw3, ← s2]; exact ((Boxed.new w2 _ _).alloc _).alloc _
  have bS : Boxed w5 (w.heap.size + 3) 9 (.string s) := by
    rw [← hw5, ← hw4, ← s3]; exact (Boxed.new w3 _ _).alloc _
  have bC : Boxed w5 (w.heap.size + 4) 5 (.int .u8 32) := by
    rw [← hw5, ← s4]; exact Boxed.new w4 _ _
  have hB0 : Below w.heap.size w w5 := by
    rw [← hw5, ← hw4, ← hw3, ← hw2, ← hw1]
    exact (((((Below.refl _ w).alloc (Nat.le_refl _) _).alloc (by simp) _).alloc (by simp; omega) _).alloc (by simp; omega) _).alloc (by simp; omega) _
  simp only [hw1, hw2, hw3, hw4, hw5, Nat.add_assoc, Nat.reduceAdd]
  clear hw1 hw2 hw3 hw4 hw5 s1 s2 s3 s4
  obtain ⟨B, hBd⟩ : ∃ B, w.heap.size = B := ⟨_, rfl⟩
  simp only [hBd] at bR bB bO bS bC hB0 s5 ⊢
  have hBle : B ≤ w.heap.size := by omega
  refine wpIn_rangeFunc_ownG rfl (by omega) (gf := 39) (lb := #[.pointer (some ⟨B + 3, 0, none⟩), .pointer (some ⟨B + 4, 0, none⟩)]) rfl trivial (enters_of Tryd.func39 (by kernel_rfl) rfl)
    (parts_stops _ (by omega) (B + 3) (B + 4) s 32 32 rfl (by omega) _ bS bC) kept_t (kept_b (by omega) (by omega)) (Below.refl _ _) (fun _ => rfl)
    (fun pre W => ((∃ v, Boxed W (B + 2) 47 v ∧ W.ownsRow B 9 1 v pre.length (tv pre) ∧ (∀ g, v.ownBlock = some g → B + 5 ≤ g)) ∧ (Below B w W ∧ B + 5 ≤ W.heap.size)) ∧ ((Boxed W B 47 (.slice none 0 0) ∧ Boxed W (B + 1) 4 (.bool false)) ∧ (∀ x ∈ pre, x ≠ ⟨#[]⟩)))
    (fun c pre W => ((Boxed W B 47 (.slice none 0 0) ∧ Boxed W (B + 1) 4 (.bool false)) ∧ Below B w W) ∧ (c = .ret ∧ ∃ q, pre = q ++ [⟨#[]⟩]))
    (OwnFrom.and (OwnFrom.and (Own.from (holdsRow_own B (B + 2) 47 9 1 (fun pre => pre.length) (fun pre => tv pre) (fun pre v => ∀ g, v.ownBlock = some g → B + 5 ≤ g)) _) (OwnFrom.and (ownFrom_below hBle (by omega)) (fun s X Y row h hg _ => Nat.le_trans h hg.size))) (OwnFrom.and (OwnFrom.and (Own.from (boxed_own B 47 (fun _ => .slice none 0 0)) _) (Own.from (boxed_own (B + 1) 4 (fun _ => .bool false)) _)) (ownFrom_pure _ (fun (pre : List ByteArray) => ∀ x ∈ pre, x ≠ ⟨#[]⟩))))
    (fun c => OwnFrom.and (OwnFrom.and (OwnFrom.and (Own.from (boxed_own B 47 (fun _ => .slice none 0 0)) _) (Own.from (boxed_own (B + 1) 4 (fun _ => .bool false)) _)) (ownFrom_below hBle (by omega))) (ownFrom_pure _ (fun (pre : List ByteArray) => c = .ret ∧ ∃ q, pre = q ++ [⟨#[]⟩])))
    ⟨⟨⟨_, bO, World.ownsRow_nil _ _ _ _, fun g hg => by simp [Value.ownBlock] at hg⟩, hB0, by omega⟩, ⟨bR, bB⟩, fun x hx => by simp at hx⟩
    (fun x => { tmps := #[.string s, undef, .pointer (some ⟨B, 0, none⟩), .pointer (some ⟨B + 1, 0, none⟩), .pointer (some ⟨B + 2, 0, none⟩), .string x, .string s, .func (.func 39) #[] #[.pointer (some ⟨B + 3, 0, none⟩), .pointer (some ⟨B + 4, 0, none⟩)], .string x, undef, undef, undef, undef, undef, undef, undef], defers := [] }) ?assign ?body ?done ?stop
  case assign =>
    intro l x W K hK
    gi_wp2
    exact hK
  case body =>
    rintro l pre x W ⟨⟨⟨v, hv, hrow, hg⟩, hB, hM⟩, ⟨c0, c1⟩, hne⟩ hlt
    have hc := hv.cell
    have q0 := c0.cell
    have q1 := c1.cell
    have p0 := c0.frozen
    have p1 := c1.frozen
    by_cases hx : x = ⟨#[]⟩
    · have hx1 := (empty_yes hx).1
      have hx2 := (empty_yes hx).2
      have c0' := (c0.set (.slice none 0 0)).other (B' := B + 1) (by omega) (.bool false)
      have c1' := (c1.other (B' := B) (by omega) (.slice none 0 0)).set (.bool false)
      have q1' := (c1.other (B' := B) (by omega) (.slice none 0 0)).cell
      have p1' := (c1.other (B' := B) (by omega) (.slice none 0 0)).frozen
      gi_wp2_with fail
      exact ⟨((KeepsOthers.setCell _ _ _).trans (KeepsOthers.setCell _ _ _)).from _, ⟨⟨c0', c1'⟩, (hB.setCell (p := ⟨B, 0, none⟩) (Nat.le_refl _) _).setCell (p := ⟨B + 1, 0, none⟩) (by simp) _⟩, rfl, pre, by rw [hx]⟩
    · have hx1 := (empty_no hx).1
      have hx2 := (empty_no hx).2
      have HX := hid hx
      clear hx
      gi_wp2_with (gi_at_builtin; refine wpListIn_append_src rfl _ _ 47 rfl B 9 i0 (.string ⟨#[]⟩) 1 16 Tryd.underlying47 hi hz0 hz1 hz2 rfl (by decide) _ _ _ rfl (hrow.alloc _) (some ⟨W.heap.size, 0, none⟩) 1 1 [.string x] rfl (src_text x _) (by unfold maxLen; omega) (by omega) (by simp; omega) ?_; intro v' w1 hown' hgrow hob; obtain ⟨g', cap', rfl⟩ := ownsRow_succ hown'; obtain ⟨hv1, hv2, hr2, hk2, hb2⟩ := hv.appended (by decide) hrow (by omega) (by omega) hown' hgrow; have hc1 := hv1.cell; have hf1 := hv1.frozen)
      have hne' : ∀ b, b < B + 5 → v.ownBlock ≠ some b := fun b hB' e => by have := hg b e; omega
      have kb : ∀ b, b < B + 5 → b ≠ B + 2 → (w1.setCell ⟨B + 2, 0, none⟩ (.slice (some ⟨g', 0, none⟩) (pre.length + 1) cap')).heap[b]? = W.heap[b]? := fun b h1 h2 => block_appended hgrow (by omega) (hne' _ h1) h2
      refine ⟨hk2.from _, ⟨kb _ (by omega) (by omega), kb _ (by omega) (by omega)⟩, ⟨⟨_, hv2, by simpa [tv] using hr2, block_new hg hM hob⟩, hB.trans hb2, Nat.le_trans hM (by have := hb2.size; omega)⟩, ⟨(kb _ (by omega) (by omega)).trans c0, (kb _ (by omega) (by omega)).trans c1⟩, fun y hy => ?_⟩
      rcases List.mem_append.1 hy with h | h
      · exact hne y h
      · simp at h; subst h; exact HX.out
  case done =>
    rintro D ys W hD rfl ⟨⟨⟨v, hv, hrow, hg⟩, hB, hM⟩, ⟨c0, c1⟩, hne⟩ hK
    obtain ⟨a', cap, rfl, hT⟩ := Ts.ofOwn hrow
    have hc := hv.cell
    have q0 := c0.cell
    have p0 := c0.frozen
    have c0' := (c0.set (.slice a' (ps 32 s).length cap)).other (B' := B + 1) (by omega) (.bool true)
    have c1' := (c1.other (B' := B) (by omega) (.slice a' (ps 32 s).length cap)).set (.bool true)
    have q1' := (c1.other (B' := B) (by omega) (.slice a' (ps 32 s).length cap)).cell
    have p1' := (c1.other (B' := B) (by omega) (.slice a' (ps 32 s).length cap)).frozen
    have r2 := (hrow.kept (grownBy_setCell' W B (.slice a' (ps 32 s).length cap)) (.inr (fun e => by have := hg B e; omega))).kept (grownBy_setCell' _ (B + 1) (.bool true)) (.inr (fun e => by have := hg (B + 1) e; omega))
    gi_wp2
    have hK' := ((KeepsOthers.setCell W ⟨B, 0, none⟩ (.slice a' (ps 32 s).length cap)).trans (KeepsOthers.setCell _ ⟨B + 1, 0, none⟩ (.bool true))).same D _ hK rfl
    refine ⟨by simp, .inl ⟨_, _, rfl, run_takeDeferred hK', ?_⟩⟩
    have h0 := cell_kept c0'.cell (grownBy_putObj' _ D (.deferred none)) (fun r e => by cases e; exact ⟨_, hK', rfl⟩)
    have h1 := cell_kept c1'.cell (grownBy_putObj' _ D (.deferred none)) (fun r e => by cases e; exact ⟨_, hK', rfl⟩)
    refine ⟨.tuple #[.slice a' (ps 32 s).length cap, .bool true], ?_, .inl ⟨wgood hne, _, _, _, rfl, Ts.ofOwn' (ownsRow_putObj r2 (.deferred none) hK' rfl)⟩, ?_⟩
    · simp [results, Tryd.f32, go_sem, h0, h1]
    · rw [hBd]
      exact ((hB.setCell (p := ⟨B, 0, none⟩) (Nat.le_refl _) _).setCell (p := ⟨B + 1, 0, none⟩) (by simp) _).trans (belowK_b (w := w) hBle _ D _ _ (by omega) hK' rfl rfl)
  case stop =>
    rintro D c pre W hD hpre ⟨⟨⟨c0, c1⟩, hB⟩, rfl, q, rfl⟩ hK
    gi_wp2
    refine ⟨by simp, .inl ⟨_, _, rfl, run_takeDeferred hK, ?_⟩⟩
    have h0 := cell_kept c0.cell (grownBy_putObj' _ D (.deferred none)) (fun r e => by cases e; exact ⟨_, hK, rfl⟩)
    have h1 := cell_kept c1.cell (grownBy_putObj' _ D (.deferred none)) (fun r e => by cases e; exact ⟨_, hK, rfl⟩)
    refine ⟨.tuple #[.slice none 0 0, .bool false], ?_, .inr ⟨wbad hpre, rfl⟩, by rw [hBd]; exact hB.trans (belowK_b (w := w) hBle W D _ _ (by omega) hK rfl rfl)⟩
    simp [results, Tryd.f32, go_sem, h0, h1]
end Go.Proofs.YthemaacfjmcbnaaDoor
