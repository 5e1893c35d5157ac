/-
  slices.SortFunc at specials and at merges, as slices of them; the walk of vocab.unmerged.
-/
import Derived.Test.YtjpboackbjfenaaVcS2
import Derived.Test.YtjpboackbjfenaaVcS3
import Derived.Test.YtjpboackbjfenaaVcW11
namespace Go.Proofs.Ytjpboackbjfenaa
open Go.RowKit Go.Sort
set_option linter.unusedVariables false

theorem sort_out {α : Type} [Inhabited α] {cf : α → α → Int} {d d' : Array α} (hP : PermIn 0 d.size d d') (hS : SortedIn (ltOf cf) 0 d.size d') : d'.toList.Perm d.toList ∧ d'.toList.Pairwise (fun a b => ltOf cf b a = false) := by
  obtain ⟨h1, _, h3⟩ := hP
  constructor
  · have e1 : d'.extract 0 d.size = d' := by rw [← h1]; simp
    have e2 : d.extract 0 d.size = d := by simp
    rw [e1, e2] at h3
    exact h3
  · rw [List.pairwise_iff_getElem]
    intro i j hi hj hij
    have hi' : i < d'.size := by simpa using hi
    have hj' : j < d'.size := by simpa using hj
    have := hS i j (Nat.zero_le _) hij (by omega)
    rw [getElem!_pos d' i hi', getElem!_pos d' j hj'] at this
    simpa using this
theorem sort_cells {α : Type} [Inhabited α] {enc : α → List Value} {k : Nat} {w : World} {g m : Nat} {d d' : Array α} {os : Array Obj} (hH : HoldsK enc k w g 0 d) (hg : g < w.heap.size) (hs : d'.size = d.size) : HoldsK enc k (sortWorldK enc k w g 0 m d' os) g 0 d' := by
  unfold sortWorldK
  refine holdsK_grow enc k _ os g 0 d' ?_ (holdsK_putRowK enc k (Sort.ahead w m) g 0 d d' (holdsK_ahead enc k w m g 0 d hH) hs)
  unfold putRowK
  rw [size_putRow]
  exact hg

theorem own_some {w : World} {base n c k : Nat} {e : TypeId} {a : Option Addr} {xs : List Value} (h : w.ownsRow base e k (.slice a n c) n xs) (hn : 0 < n) : ∃ g, a = some ⟨g, 0, none⟩ := by
  obtain ⟨_, h⟩ := h
  rcases h with ⟨h1, h2⟩ | ⟨g2, cap2, cur, h1, _⟩
  · cases h1; omega
  · cases h1; exact ⟨g2, rfl⟩

set_option maxHeartbeats 1600000 in
theorem sortS_calls {w : World} {base n c : Nat} {a : Option Addr} {sp : Vc.Sps} (O : w.ownsRow base 49 2 (.slice a n c) n (rv sp)) (hb : base ≤ w.heap.size) (hn : n ≤ 1000000) :
    Calls Try.prog 56 #[.slice a n c, .func (.func 57) #[] #[]] w fun e w' => (e = .returned (.tuple #[]) ∧ ∃ sp', Vc.SpIs sp sp' ∧ Rw w' a n c sp') ∧ Below base w w' := by
  have R := Rw.ofOwn' O
  by_cases h0 : n = 0
  · subst h0
    have hs : sp = [] := List.eq_nil_of_length_eq_zero R.len
    subst hs
    have h := AnyF.slices_SortFunc_none Try.sortL56 a c (.func (.func 57) #[] #[]) w
    change Calls Try.prog 56 _ _ _ at h
    exact h.mono fun e w' ⟨h1, h2⟩ => by subst h2; exact ⟨⟨h1, [], ⟨List.Perm.refl _, List.Pairwise.nil⟩, R⟩, Below.refl _ _⟩
  · obtain ⟨g, rfl⟩ := own_some O (by omega)
    obtain ⟨hH, hg1, hg2⟩ := holdsK_own (enc := encS) (k := 2) (fun _ => rfl) R.len O
    have hz : sp.toArray.size = n := by simp [R.len]
    have eg : ∀ args w, (callFunc 57 args).run Try.prog w = .ok (.enter 57 args) w := enters_of Try.func57 (by kernel_rfl) rfl
    have h := AnyQ.slices_SortFunc Try.sortL56 2 Try.isAgg49 Try.sizeOf49 encS (fun _ => rfl) (fun x v hv => by simp [encS] at hv; rcases hv with rfl | rfl <;> rfl) (fun x y => Vc.cmpT x.1 y.1) swoS 57 #[] g 0 c sp.toArray w eg (cmpLaysS g 0 _ w) hH hg2 (by rw [hz]; omega)
    change Calls Try.prog 56 _ _ _ at h
    rw [hz] at h
    refine h.mono fun e w' ⟨h1, d', m, os, hp, hs, hw⟩ => ⟨⟨h1, d'.toList, ?_, ?_⟩, ?_⟩
    · rw [← hz] at hp hs
      obtain ⟨p1, p2⟩ := sort_out hp hs
      exact ⟨p1, p2.imp (fun {x y} h => (ltS_no y x).1 h)⟩
    · have hd : d'.size = n := by rw [hp.1, hz]
      have hC := sort_cells (m := m) (os := os) hH hg2 (by rw [hd, hz])
      rw [← hw] at hC
      refine ⟨by simpa using hd, R.le, R.mx, fun e => absurd e (by simp), fun _ => ⟨g, 0, rfl, ?_, fun i hi => ?_⟩⟩
      · rw [hw]
        exact Nat.lt_of_lt_of_le hg2 (by unfold sortWorldK putRowK; simp [Sort.grow, mapBlock, putRow, Sort.ahead] <;> omega)
      · have c0 := (hC.cell (i := i) (c := 0) (by omega) (by omega)).1
        have c1 := (hC.cell (i := i) (c := 1) (by omega) (by omega)).1
        have hi' : i < d'.size := by omega
        rw [getElem!_pos d' i hi'] at c0 c1
        exact ⟨by simpa [encS, tat, hi'] using c0, by simpa [encS, kat, hi'] using c1⟩
    · rw [hw]
      exact below_sortK hb hg1

set_option maxHeartbeats 1600000 in
theorem sortM_calls {w : World} {base n c : Nat} {a : Option Addr} {ms : List Mg4} (O : w.ownsRow base 54 4 (.slice a n c) n (mv ms)) (hb : base ≤ w.heap.size) (hn : n ≤ 1000000) :
    Calls Try.prog 59 #[.slice a n c, .func (.func 42) #[] #[]] w fun e w' => (e = .returned (.tuple #[]) ∧ ∃ ms', (ms'.Perm ms ∧ ms'.Pairwise (fun a b => ¬ Vc.Ahead b a)) ∧ Qw w' a n c ms') ∧ Below base w w' := by
  have R := Qw.ofOwn' O
  by_cases h0 : n = 0
  · subst h0
    have hs : ms = [] := List.eq_nil_of_length_eq_zero R.len
    subst hs
    have h := AnyF.slices_SortFunc_none Try.sortL59 a c (.func (.func 42) #[] #[]) w
    change Calls Try.prog 59 _ _ _ at h
    exact h.mono fun e w' ⟨h1, h2⟩ => by subst h2; exact ⟨⟨h1, [], ⟨List.Perm.refl _, List.Pairwise.nil⟩, R⟩, Below.refl _ _⟩
  · obtain ⟨g, rfl⟩ := own_some O (by omega)
    obtain ⟨hH, hg1, hg2⟩ := holdsK_own (enc := encM) (k := 4) (fun _ => rfl) R.len O
    have hz : ms.toArray.size = n := by simp [R.len]
    have eg : ∀ args w, (callFunc 42 args).run Try.prog w = .ok (.enter 42 args) w := enters_of Try.func42 (by kernel_rfl) rfl
    have h := AnyQ.slices_SortFunc Try.sortL59 4 Try.isAgg54 Try.sizeOf54 encM (fun _ => rfl) (fun x v hv => by simp [encM] at hv; rcases hv with rfl | rfl | rfl | rfl <;> rfl) (fun x y => Vc.cmp x y) swoM 42 #[] g 0 c ms.toArray w eg (cmpLaysM g 0 _ w) hH hg2 (by rw [hz]; omega)
    change Calls Try.prog 59 _ _ _ at h
    rw [hz] at h
    refine h.mono fun e w' ⟨h1, d', m, os, hp, hs, hw⟩ => ⟨⟨h1, d'.toList, ?_, ?_⟩, ?_⟩
    · rw [← hz] at hp hs
      obtain ⟨p1, p2⟩ := sort_out hp hs
      exact ⟨p1, p2.imp (fun {x y} h => (ltM_no y x).1 h)⟩
    · have hd : d'.size = n := by rw [hp.1, hz]
      have hC := sort_cells (m := m) (os := os) hH hg2 (by rw [hd, hz])
      rw [← hw] at hC
      refine ⟨by simpa using hd, R.le, R.mx, fun e => absurd e (by simp), fun _ => ⟨g, 0, rfl, ?_, fun i hi => ?_⟩⟩
      · rw [hw]
        exact Nat.lt_of_lt_of_le hg2 (by unfold sortWorldK putRowK; simp [Sort.grow, mapBlock, putRow, Sort.ahead] <;> omega)
      · have c0 := (hC.cell (i := i) (c := 0) (by omega) (by omega)).1
        have c1 := (hC.cell (i := i) (c := 1) (by omega) (by omega)).1
        have c2 := (hC.cell (i := i) (c := 2) (by omega) (by omega)).1
        have c3 := (hC.cell (i := i) (c := 3) (by omega) (by omega)).1
        have hi' : i < d'.size := by omega
        rw [getElem!_pos d' i hi'] at c0 c1 c2 c3
        exact ⟨by simpa [encM, mat, hi'] using c0, by simpa [encM, mat, hi'] using c1, by simpa [encM, mat, hi'] using c2, by simpa [encM, mat, hi'] using c3⟩
    · rw [hw]
      exact below_sortK hb hg1

/-- What unmerged answers. -/
def UmOut (M : Nat) (rs sp : Vc.Sps) (e : Ending) (w' : World) : Prop :=
  (Vc.Ranks rs sp ∧ ∃ ts sp' b az ns cs, (M ≤ b ∧ Hi M az) ∧ Vc.TokIs rs sp ts ∧ Vc.MayT ts ∧ Vc.SpIs sp sp' ∧ e = .returned (.tuple #[.agg #[.slice (some ⟨b, 0, none⟩) ts.length ts.length, .slice none 0 0, .slice az ns cs], .bool true]) ∧ Ts w' (some ⟨b, 0, none⟩) ts.length ts.length ts ∧ Rw w' az ns cs sp') ∨
  ((¬ Vc.Ranks rs sp ∨ ∃ ts, Vc.TokIs rs sp ts ∧ ¬ Vc.MayT ts) ∧ e = .returned (.tuple #[.agg #[.slice none 0 0, .slice none 0 0, .slice none 0 0], .bool false]))

theorem tok_small {rs sp : Vc.Sps} {ts : Vc.Toks} {N : Nat} (h : Vc.TokIs rs sp ts) (hz : ∀ i, i < rs.length → (tat rs i).size ≤ N) (k : Nat) (hk : k < ts.length) : (at_ ts k).size ≤ N := by
  rcases h.mem hk with h1 | ⟨i, hi, _, h1⟩
  · rw [h1]; exact Nat.zero_le _
  · rw [h1]; exact hz i hi

set_option maxRecDepth 100000 in
set_option maxHeartbeats 3200000 in
theorem unmerged_calls {w : World} {a az : Option Addr} {n c ns cs : Nat} {rs sp : Vc.Sps} (V : Rw w a n c rs) (Q : Rw w az ns cs sp) (hz : ∀ i, i < rs.length → (tat rs i).size ≤ maxLen) (hns : ns ≤ 1000000) :
    Calls Try.prog 33 #[.slice a n c, .slice az ns cs] w fun e w' => UmOut w.heap.size rs sp e w' ∧ Below w.heap.size w w' := by
  have B0 := hid ((Below.refl w.heap.size w).alloc (Nat.le_refl _) (.cells #[.slice none 0 0, .slice none 0 0, .slice none 0 0] 26))
  have R0 := hid (Bx3.new w 26 (.slice none 0 0) (.slice none 0 0) (.slice none 0 0))
  have V0 := hid (V.below B0.out)
  have QW := hid Q
  have Q0 := hid (Q.below B0.out)
  have HZ := hid hz
  clear V Q hz
  go_enter Try.func33, Try.ntmps33
  go_wp2_with fail
  refine (tokensOf_calls V0.out Q0.out).mono ?_
  rintro e w1 ⟨E1, b1⟩
  have R1 := hid (R0.out.below b1 R0.out.lt)
  have B1 := hid (B0.out.trans (b1.mono B0.out.size))
  clear b1 B0 R0 V0 Q0
  rcases E1 with ⟨hR, ts, b, hbM, hT, rfl, hTs⟩ | ⟨hno, rfl⟩
  · have HR := hid hR
    have HT := hid hT
    have T1 := hid hTs
    have HbM := hid (show w.heap.size + 1 ≤ b by simpa using hbM)
    clear hR hT hTs hbM
    go_wp2_with fail
    refine (mayTokens_calls T1.out (tok_small HT.out HZ.out)).mono ?_
    rintro e w2 ⟨⟨t, rfl, ht⟩, b2⟩
    have HM := hid ht
    have R2 := hid (R1.out.below b2 R1.out.lt)
    have T2 := hid (T1.out.below b2)
    have B2 := hid (B1.out.trans (b2.mono B1.out.size))
    clear ht b2 R1 T1 B1
    cases t
    · have HN := hid (show ¬ Vc.MayT ts from fun h => absurd (HM.out.2 h) (by decide))
      obtain ⟨y1, y2, y3⟩ := ret_three R2.out (.slice none 0 0) (.slice none 0 0) (.slice none 0 0)
      have BB := hid (below_three B2.out (R := w.heap.size) (Nat.le_refl _) (.slice none 0 0) (.slice none 0 0) (.slice none 0 0))
      have p0 := R2.out.cell0
      have p1 := R2.out.cell1
      have p2 := R2.out.cell2
      have q0 := R2.out.fr 0
      have q1 := R2.out.fr 1
      have q2 := R2.out.fr 2
      have u1 := y1.cell1
      have v1 := y1.fr 1
      have u2 := y2.cell2
      have v2 := y2.fr 2
      have r0 := y3.cell0
      have r1 := y3.cell1
      have r2 := y3.cell2
      unfold three at r0 r1 r2
      clear y1 y2 y3
      go_wp2_with fail
      refine bodyPost_ret (v := .tuple #[.agg #[.slice none 0 0, .slice none 0 0, .slice none 0 0], .bool false]) (by simp [results, Try.results33, go_sem, r0, r1, r2]) rfl ?_
      exact ⟨.inr ⟨.inr ⟨ts, HT.out, HN.out⟩, rfl⟩, BB.out⟩
    · have HMT := hid (HM.out.1 rfl)
      clear HM
      go_wp2_with fail
      refine (clone_calls (QW.out.below B2.out) hns).mono ?_
      rintro e w3 ⟨⟨v, rfl, hv⟩, b3⟩
      obtain ⟨a3, c3, rfl, _⟩ := Rw.ofOwn hv
      have O3 := hid hv
      have R3 := hid (R2.out.below b3 R2.out.lt)
      have T3 := hid (T2.out.below b3)
      have B3 := hid b3
      have hs23 := b3.size
      have HRl := hid R2.out.lt
      have H3 := hid ((hi_own hv).mono (show w.heap.size + 1 ≤ w2.heap.size from R2.out.lt))
      clear hv b3 R2
      go_wp2_with fail
      refine (sortS_calls O3.out hs23 hns).mono ?_
      rintro e w4 ⟨⟨rfl, sp', hsp, hr4⟩, b4⟩
      have B34 := hid (B3.out.trans b4)
      have R4 := hid (R3.out.below b4 HRl.out)
      have T4 := hid (T2.out.below B34.out)
      have B4 := hid (B2.out.trans (B34.out.mono B2.out.size))
      have HS := hid hsp
      have Q4 := hid hr4
      clear hsp hr4 b4 B34 T3 R3 B3 O3 HRl
      obtain ⟨y1, y2, y3⟩ := ret_three R4.out (.slice (some ⟨b, 0, none⟩) ts.length ts.length) (.slice none 0 0) (.slice a3 ns c3)
      have BB := hid (below_three B4.out (R := w.heap.size) (Nat.le_refl _) (.slice (some ⟨b, 0, none⟩) ts.length ts.length) (.slice none 0 0) (.slice a3 ns c3))
      have Mw := hid (mut_three w4 w.heap.size (.slice (some ⟨b, 0, none⟩) ts.length ts.length) (.slice none 0 0) (.slice a3 ns c3) (S := fun i => i = w.heap.size) rfl)
      have T5 := hid (T4.out.mut Mw.out (hi_some HbM.out) (fun i hi => by omega))
      have Q5 := hid (Q4.out.mut Mw.out H3.out (fun i hi => by omega))
      have p0 := R4.out.cell0
      have p1 := R4.out.cell1
      have p2 := R4.out.cell2
      have q0 := R4.out.fr 0
      have q1 := R4.out.fr 1
      have q2 := R4.out.fr 2
      have u1 := y1.cell1
      have v1 := y1.fr 1
      have u2 := y2.cell2
      have v2 := y2.fr 2
      have r0 := y3.cell0
      have r1 := y3.cell1
      have r2 := y3.cell2
      unfold three at r0 r1 r2
      clear y1 y2 y3
      go_wp2_with fail
      refine bodyPost_ret (v := .tuple #[.agg #[.slice (some ⟨b, 0, none⟩) ts.length ts.length, .slice none 0 0, .slice a3 ns c3], .bool true]) (by simp [results, Try.results33, go_sem, r0, r1, r2]) rfl ?_
      exact ⟨.inl ⟨HR.out, ts, sp', b, a3, ns, c3, ⟨Nat.le_of_succ_le HbM.out, H3.out.mono (Nat.le_succ _)⟩, HT.out, HMT.out, HS.out, rfl, T5.out, Q5.out⟩, BB.out⟩
  · have HN := hid hno
    clear hno
    obtain ⟨y1, y2, y3⟩ := ret_three R1.out (.slice none 0 0) (.slice none 0 0) (.slice none 0 0)
    have BB := hid (below_three B1.out (R := w.heap.size) (Nat.le_refl _) (.slice none 0 0) (.slice none 0 0) (.slice none 0 0))
    have p0 := R1.out.cell0
    have p1 := R1.out.cell1
    have p2 := R1.out.cell2
    have q0 := R1.out.fr 0
    have q1 := R1.out.fr 1
    have q2 := R1.out.fr 2
    have u1 := y1.cell1
    have v1 := y1.fr 1
    have u2 := y2.cell2
    have v2 := y2.fr 2
    have r0 := y3.cell0
    have r1 := y3.cell1
    have r2 := y3.cell2
    unfold three at r0 r1 r2
    clear y1 y2 y3
    go_wp2_with fail
    refine bodyPost_ret (v := .tuple #[.agg #[.slice none 0 0, .slice none 0 0, .slice none 0 0], .bool false]) (by simp [results, Try.results33, go_sem, r0, r1, r2]) rfl ?_
    exact ⟨.inr ⟨.inl HN.out, rfl⟩, BB.out⟩
end Go.Proofs.Ytjpboackbjfenaa
