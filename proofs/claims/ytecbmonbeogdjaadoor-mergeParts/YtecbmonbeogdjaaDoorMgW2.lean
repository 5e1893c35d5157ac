/-
  A reader in memory, and the walks of its states: first, row, pair.
-/
import Derived.Test.YtecbmonbeogdjaaDoorMgW1
import Derived.Test.YtecbmonbeogdjaaDoorRkI
import Derived.Deep.LoopGhost
import Derived.Deep.RegionLaw
import Derived.Laws.EntriesVeiled
namespace Go.Proofs.YtecbmonbeogdjaaDoor
open Go.RowKit
set_option linter.unusedVariables false

theorem Tryd.infoP : (Tryd.prog.info? 45).map (fun i => (i.zero, i.size, i.bytes)) = some (some (.agg #[.string ⟨#[]⟩, .string ⟨#[]⟩]), 2, 32) := by kernel_rfl

/-- A reader at block B: its state's method, whether no line is lacking, its rows and pairs, both above M. -/
structure Rdr (w : World) (B M fn : Nat) (wh : Bool) (vr vp : Value) (rs : Mg.Rows) (ps : Mg.Prs) : Prop where
  blk : Bx4 w B 56 (.func (.func fn) #[.pointer (some ⟨B, 0, none⟩)] #[]) (.bool wh) vr vp
  rows : w.ownsRow M 43 2 vr rs.length (rv rs)
  pairs : w.ownsRow M 45 2 vp ps.length (pv ps)
  lt : B < M
  le : M ≤ w.heap.size
theorem Rdr.below {w w' : World} {B M fn : Nat} {wh : Bool} {vr vp : Value} {rs : Mg.Rows} {ps : Mg.Prs} (h : Rdr w B M fn wh vr vp rs ps) (hb : Below w.heap.size w w') : Rdr w' B M fn wh vr vp rs ps :=
  ⟨h.blk.below hb h.blk.lt, own_below h.rows hb, own_below h.pairs hb, h.lt, Nat.le_trans h.le hb.size⟩
/-- Which method stands for a state. -/
def Phase (st fn : Nat) (wh : Bool) : Prop := (st = 0 ∧ fn = 22 ∧ wh = false) ∨ (st = 1 ∧ fn = 33 ∧ wh = false) ∨ (st = 2 ∧ fn = 41 ∧ wh = true)
/-- The blocks that a reader writes into. -/
def rdB (B M : Nat) : Nat → Prop := fun k => k = B ∨ M ≤ k
/-- What a state's method answers of a line. -/
def StOut (w : World) (B M st : Nat) (rs : Mg.Rows) (ps : Mg.Prs) (s : ByteArray) (e : Ending) (w' : World) : Prop :=
  ((∃ st' fn' wh' vr' vp' rs' ps', e = .returned (.int .i64 0) ∧ Phase st' fn' wh' ∧ Mg.Stp st rs ps s st' rs' ps' ∧ Rdr w' B M fn' wh' vr' vp' rs' ps') ∨ (∃ c, Mg.Err st s c ∧ e = .returned (.int .i64 c))) ∧ Mut (rdB B M) w w'

theorem ne_text {s : ByteArray} {l : List UInt8} (h : s ≠ mk l) : ¬ s.toList = l := fun e => h (by rw [by_toList] at e; exact by_inj (by rw [by_mk]; exact e))
theorem bne_text {s : ByteArray} {l : List UInt8} (h : s ≠ mk l) : (s.toList == l) = false := by
  rw [beq_eq_false_iff_ne]
  exact ne_text h

set_option maxRecDepth 100000 in
set_option maxHeartbeats 1600000 in
theorem mfirst_calls (B M : Nat) (s : ByteArray) (w : World) (vr vp : Value) (rs : Mg.Rows) (ps : Mg.Prs) (h : Rdr w B M 22 false vr vp rs ps) :
    Calls Tryd.prog 22 #[.pointer (some ⟨B, 0, none⟩), .string s] w fun e w' => StOut w B M 0 rs ps s e w' := by
  have H := hid h
  have c0 := h.blk.cell0
  have f0 := h.blk.fr 0
  clear h
  by_cases hs : s = Mg.sVocab
  · subst hs
    unfold Mg.sVocab
    go_enter Tryd.func22, Tryd.ntmps22
    go_wp2_with fail
    go_ret
    refine ⟨.inl ⟨1, _, false, vr, vp, rs, ps, rfl, .inr (.inl ⟨rfl, rfl, rfl⟩), .inl ⟨rfl, rfl, rfl, rfl, rfl⟩, ?_⟩, ?_⟩
    · exact ⟨H.out.blk.set0 _, own_set H.out.rows (own_block H.out.rows H.out.lt) _, own_set H.out.pairs (own_block H.out.pairs H.out.lt) _, H.out.lt, by simpa [World.setCell] using H.out.le⟩
    · exact (Mut.refl _ w).setCell B 0 _ (.inl rfl)
  · have h1 := bne_text (l := [118, 111, 99, 97, 98]) hs
    have h2 := ne_text (l := [118, 111, 99, 97, 98]) hs
    have HS := hid hs
    clear hs
    go_enter Tryd.func22, Tryd.ntmps22
    go_wp2_with fail
    go_ret
    exact ⟨.inr ⟨2, .inl ⟨rfl, HS.out, rfl⟩, rfl⟩, Mut.refl _ _⟩

set_option maxRecDepth 100000 in
set_option maxHeartbeats 3200000 in
theorem mrow_calls (B M : Nat) (s : ByteArray) (w : World) (vr vp : Value) (rs : Mg.Rows) (ps : Mg.Prs) (hsz : s.size ≤ 100000) (hr : rs.length < 4096) (h : Rdr w B M 33 false vr vp rs ps) :
    Calls Tryd.prog 33 #[.pointer (some ⟨B, 0, none⟩), .string s] w fun e w' => StOut w B M 1 rs ps s e w' := by
  obtain ⟨i0, hi, hz0, hz1, hz2⟩ := info_parts Tryd.infoR
  have H := hid h
  by_cases hs : s = Mg.sMerges
  · have c0 := h.blk.cell0
    have f0 := h.blk.fr 0
    have X1 := h.blk.set0 (.func (.func 41) #[.pointer (some ⟨B, 0, none⟩)] #[])
    have c1 := X1.cell1
    have f1 := X1.fr 1
    clear h X1
    subst hs
    unfold Mg.sMerges
    go_enter Tryd.func33, Tryd.ntmps33
    go_wp2_with fail
    go_ret
    refine ⟨.inl ⟨2, _, true, vr, vp, rs, ps, rfl, .inr (.inr ⟨rfl, rfl, rfl⟩), .inr (.inl ⟨rfl, rfl, rfl, rfl, rfl⟩), ?_⟩, ?_⟩
    · exact ⟨(H.out.blk.set0 _).set1 _, own_set (own_set H.out.rows (own_block H.out.rows H.out.lt) _) (own_block H.out.rows H.out.lt) _, own_set (own_set H.out.pairs (own_block H.out.pairs H.out.lt) _) (own_block H.out.pairs H.out.lt) _, H.out.lt, by simpa [World.setCell] using H.out.le⟩
    · exact ((Mut.refl _ w).setCell B 0 _ (.inl rfl)).setCell B 1 _ (.inl rfl)
  · have h1 := bne_text (l := [109, 101, 114, 103, 101, 115]) hs
    have h2 := ne_text (l := [109, 101, 114, 103, 101, 115]) hs
    have HS := hid hs
    clear hs h
    go_enter Tryd.func33, Tryd.ntmps33
    go_wp2_with fail
    refine (mrowOf_calls s _ hsz).mono ?_
    rintro e w1 ⟨ho, hb1⟩
    have H1 := hid (H.out.below hb1)
    have M1 := hid ((Mut.refl (rdB B M) w).then_below hb1)
    clear hb1
    rcases ho with ⟨⟨t, k⟩, hx, rfl⟩ | ⟨hx, rfl⟩
    · have HX := hid hx
      have H2 := hid (H1.out.below ((Below.refl _ w1).alloc (Nat.le_refl _) (.cells #[.string t, .int .i64 k] 43)))
      have M2 := hid (M1.out.alloc (.cells #[.string t, .int .i64 k] 43))
      have Y2 := hid (Bx2.new w1 43 (.string t) (.int .i64 k))
      clear hx
      by_cases h64 : 64 < t.size
      · have h64' : (64 : Int) < t.size := by omega
        have c2 := H2.out.blk.cell2
        go_wp2_with (go_at_call 36; refine (isLong_calls _ _).mono ?_; rintro e w2 ⟨rfl, rfl⟩; rw [decide_eq_true h64])
        go_ret
        exact ⟨.inr ⟨7, .inr (.inr (.inl ⟨rfl, HS.out, ⟨_, HX.out, h64⟩, rfl⟩)), rfl⟩, M2.out⟩
      · have h64' : ¬ (64 : Int) < t.size := by omega
        have c2 := H2.out.blk.cell2
        obtain ⟨ar, cr, rfl, hrw⟩ := Rw.ofOwn H2.out.rows
        have k9 : ¬ (4096 : Int) ≤ rs.length := by omega
        clear hrw
        have y0 := Y2.out.cell0
        have y1 := Y2.out.cell1
        have fr2 := H2.out.blk.fr 2
        have hlt := H2.out.lt
        have hle := H1.out.le
        go_wp2_with (go_at_call 36; refine (isLong_calls _ _).mono ?_; rintro e w2 ⟨rfl, rfl⟩; rw [decide_eq_false h64])
        have hnb : ∀ g, (Value.slice ar rs.length cr).ownBlock = some g → g < w1.heap.size := fun g e => (H1.out.rows.lt g e).2
        obtain ⟨nb, hnb0⟩ : ∃ nb, w1.heap.size = nb := ⟨_, rfl⟩
        obtain ⟨W, hW0⟩ : ∃ W, w1.alloc (.cells #[.string t, .int .i64 k] 43) = W := ⟨_, rfl⟩
        have hWs := hid (show W.heap.size = nb + 1 by rw [← hW0, ← hnb0]; simp)
        rw [hW0, hnb0] at Y2
        rw [hW0] at H2 M2 c2 fr2 y0 y1 ⊢
        rw [hnb0] at y0 y1 hle hnb ⊢
        clear hW0 hnb0 H1 M1
        have hMW : M ≤ W.heap.size := H2.out.le
        have hrne : (Value.slice ar rs.length cr).ownBlock ≠ some B := own_block H2.out.rows hlt
        have ap := own_apart H2.out.pairs H2.out.rows (by decide)
        have c2a := cell_alloc c2 (.cells #[.string t, .int .i64 k] 43)
        go_region_law
          (first | (refine step_append_src (by rfl) _ _ _ (by rfl) M 43 i0 _ 2 24 Tryd.underlying22 hi hz0 hz1 hz2 rfl (by omega) (.slice ar rs.length cr) rs.length (rv rs) (by rfl) ((H2.out.rows.alloc _).drew) (some ⟨W.heap.size, 0, none⟩) 1 1 [.string t, .int .i64 k] (by rfl) ((src_row t k _).below (Below.refl _ _).drew) (by unfold maxLen; omega) (by omega) (by simp; omega) ?_; intro v5 w5 ho5 hg5 hob5; rw [rv_snoc] at ho5; obtain ⟨a5, q5, rfl, hr5⟩ := Rw.ofOwn ho5; have X5 := hid (Bx4.kept (H2.out.blk.alloc _).drew hg5 (Ne.symm hrne)); have x5 := X5.out.cell2; have z5 := X5.out.fr 2))
        all_goals
          go_wp2_with fail
          go_ret
          refine ⟨.inl ⟨1, _, false, .slice a5 (rs.length + 1) q5, vp, rs ++ [(t, k)], ps, rfl, .inr (.inl ⟨rfl, rfl, rfl⟩), .inr (.inr (.inl ⟨rfl, HS.out, (t, k), HX.out, by show t.size ≤ 64; omega, rfl, rfl, rfl⟩)), ?_⟩, ?_⟩
          · refine ⟨X5.out.set2 _, ?_, ?_, hlt, ?_⟩
            · rw [List.length_append]
              exact own_set ho5 (own_block ho5 hlt) _
            · exact own_set (((H2.out.pairs.alloc _).drew).kept hg5 ap) (own_block H2.out.pairs hlt) _
            · have := hg5.size
              simp [World.setCell] at this ⊢
              omega
          · exact ((M2.out.alloc _).drew.grown hg5 (fun g e => .inr (H2.out.rows.lt g e).1)).setCell B 2 _ (.inl rfl)
    · have HX := hid hx
      have M2 := hid (M1.out.alloc (.cells #[.string ⟨#[]⟩, .int .i64 0] 43))
      clear hx
      go_wp2_with fail
      go_ret
      exact ⟨.inr ⟨2, .inr (.inl ⟨rfl, HS.out, HX.out, rfl⟩), rfl⟩, M2.out⟩
set_option maxRecDepth 100000 in
set_option maxHeartbeats 3200000 in
theorem mpair_calls (B M : Nat) (s : ByteArray) (w : World) (vr vp : Value) (rs : Mg.Rows) (ps : Mg.Prs) (hsz : s.size ≤ 100000) (hr : ps.length < 16384) (h : Rdr w B M 41 true vr vp rs ps) :
    Calls Tryd.prog 41 #[.pointer (some ⟨B, 0, none⟩), .string s] w fun e w' => StOut w B M 2 rs ps s e w' := by
  obtain ⟨i0, hi, hz0, hz1, hz2⟩ := info_parts Tryd.infoP
  have H := hid h
  clear h
  go_enter Tryd.func41, Tryd.ntmps41
  go_wp2_with fail
  refine (mpairOf_calls s _ hsz).mono ?_
  rintro e w1 ⟨ho, hb1⟩
  have H1 := hid (H.out.below hb1)
  have M1 := hid ((Mut.refl (rdB B M) w).then_below hb1)
  clear hb1
  rcases ho with ⟨⟨t, k⟩, hx, rfl⟩ | ⟨hx, rfl⟩
  · have HX := hid hx
    have H2 := hid (H1.out.below ((Below.refl _ w1).alloc (Nat.le_refl _) (.cells #[.string t, .string k] 45)))
    have M2 := hid (M1.out.alloc (.cells #[.string t, .string k] 45))
    have Y2 := hid (Bx2.new w1 45 (.string t) (.string k))
    clear hx
    by_cases h64 : 64 < t.size
    · have h64' : (64 : Int) < t.size := by omega
      have y0 := Y2.out.cell0
      have y1 := Y2.out.cell1
      have c3 := H2.out.blk.cell3
      go_wp2_with (go_at_call 36; refine (isLong_calls _ _).mono ?_; rintro e w2 ⟨rfl, rfl⟩; rw [decide_eq_true h64])
      go_ret
      exact ⟨.inr ⟨7, .inr (.inr (.inr (.inr ⟨rfl, ⟨_, HX.out, .inl h64⟩, rfl⟩))), rfl⟩, M2.out⟩
    by_cases h65 : 64 < k.size
    · have h65' : (64 : Int) < k.size := by omega
      have h64' : ¬ (64 : Int) < t.size := by omega
      have y0 := Y2.out.cell0
      have y1 := Y2.out.cell1
      have c3 := H2.out.blk.cell3
      go_wp2_with (first | (go_at_call_of 36 (Value.string t); refine (isLong_calls _ _).mono ?_; rintro e w2 ⟨rfl, rfl⟩; rw [decide_eq_false h64]) | (go_at_call_of 36 (Value.string k); refine (isLong_calls _ _).mono ?_; rintro e w2 ⟨rfl, rfl⟩; rw [decide_eq_true h65]))
      go_ret
      exact ⟨.inr ⟨7, .inr (.inr (.inr (.inr ⟨rfl, ⟨_, HX.out, .inr h65⟩, rfl⟩))), rfl⟩, M2.out⟩
    · have h64' : ¬ (64 : Int) < t.size := by omega
      have h65' : ¬ (64 : Int) < k.size := by omega
      have c2 := H2.out.blk.cell3
      obtain ⟨ar, cr, rfl, hrw⟩ := Pw.ofOwn H2.out.pairs
      have k9 : ¬ (16384 : Int) ≤ ps.length := by omega
      clear hrw
      have y0 := Y2.out.cell0
      have y1 := Y2.out.cell1
      have fr2 := H2.out.blk.fr 3
      have hlt := H2.out.lt
      have hle := H1.out.le
      go_wp2_with (first | (go_at_call_of 36 (Value.string t); refine (isLong_calls _ _).mono ?_; rintro e w2 ⟨rfl, rfl⟩; rw [decide_eq_false h64]) | (go_at_call_of 36 (Value.string k); refine (isLong_calls _ _).mono ?_; rintro e w2 ⟨rfl, rfl⟩; rw [decide_eq_false h65]))
      have hnb : ∀ g, (Value.slice ar ps.length cr).ownBlock = some g → g < w1.heap.size := fun g e => (H1.out.pairs.lt g e).2
      obtain ⟨nb, hnb0⟩ : ∃ nb, w1.heap.size = nb := ⟨_, rfl⟩
      obtain ⟨W, hW0⟩ : ∃ W, w1.alloc (.cells #[.string t, .string k] 45) = W := ⟨_, rfl⟩
      have hWs := hid (show W.heap.size = nb + 1 by rw [← hW0, ← hnb0]; simp)
      rw [hW0, hnb0] at Y2
      rw [hW0] at H2 M2 c2 fr2 y0 y1 ⊢
      rw [hnb0] at y0 y1 hle hnb ⊢
      clear hW0 hnb0 H1 M1
      have hMW : M ≤ W.heap.size := H2.out.le
      have hrne : (Value.slice ar ps.length cr).ownBlock ≠ some B := own_block H2.out.pairs hlt
      have ap := own_apart H2.out.rows H2.out.pairs (by decide)
      have c2a := cell_alloc c2 (.cells #[.string t, .string k] 45)
      go_region_law
        (first | (refine step_append_src (by rfl) _ _ _ (by rfl) M 45 i0 _ 2 32 Tryd.underlying23 hi hz0 hz1 hz2 rfl (by omega) (.slice ar ps.length cr) ps.length (pv ps) (by rfl) ((H2.out.pairs.alloc _).drew) (some ⟨W.heap.size, 0, none⟩) 1 1 [.string t, .string k] (by rfl) ((src_pair t k _).below (Below.refl _ _).drew) (by unfold maxLen; omega) (by omega) (by simp; omega) ?_; intro v5 w5 ho5 hg5 hob5; rw [pv_snoc] at ho5; obtain ⟨a5, q5, rfl, hr5⟩ := Pw.ofOwn ho5; have X5 := hid (Bx4.kept (H2.out.blk.alloc _).drew hg5 (Ne.symm hrne)); have x5 := X5.out.cell3; have z5 := X5.out.fr 3))
      all_goals
        go_wp2_with fail
        go_ret
        refine ⟨.inl ⟨2, _, true, vr, .slice a5 (ps.length + 1) q5, rs, ps ++ [(t, k)], rfl, .inr (.inr ⟨rfl, rfl, rfl⟩), .inr (.inr (.inr ⟨rfl, (t, k), HX.out, by show t.size ≤ 64; omega, by show k.size ≤ 64; omega, rfl, rfl, rfl⟩)), ?_⟩, ?_⟩
        · refine ⟨X5.out.set3 _, ?_, ?_, hlt, ?_⟩
          · exact own_set (((H2.out.rows.alloc _).drew).kept hg5 ap) (own_block H2.out.rows hlt) _
          · rw [List.length_append]
            exact own_set ho5 (own_block ho5 hlt) _
          · have := hg5.size
            simp [World.setCell] at this ⊢
            omega
        · exact ((M2.out.alloc _).drew.grown hg5 (fun g e => .inr (H2.out.pairs.lt g e).1)).setCell B 3 _ (.inl rfl)
  · have HX := hid hx
    have M2 := hid (M1.out.alloc (.cells #[.string ⟨#[]⟩, .string ⟨#[]⟩] 45))
    clear hx
    go_wp2_with fail
    go_ret
    exact ⟨.inr ⟨2, .inr (.inr (.inr (.inl ⟨rfl, HX.out, rfl⟩))), rfl⟩, M2.out⟩
end Go.Proofs.YtecbmonbeogdjaaDoor
