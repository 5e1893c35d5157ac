/-
  The walk of the law LineJoins.
-/
import Derived.Test.YtjbcjlpincblcaaDoorLineLinesW
namespace Go.Proofs.YtjbcjlpincblcaaDoor
open Go.RowKit
set_option linter.unusedVariables false

theorem Tryd.infoU : (Tryd.prog.info? 5).map (fun i => (i.zero, i.size, i.bytes)) = some (some (.int .u8 0), 1, 1) := by kernel_rfl
/-- The empty line between two texts, if there is one. -/
def gapT (s : ByteArray) : List ByteArray := (Ln.gap (by_ s)).map mk
theorem gap_none {s : ByteArray} (h : s.size = 0) : gapT s = [⟨#[]⟩] := by
  have : by_ s = [] := List.eq_nil_of_length_eq_zero (by rw [by_length, h])
  unfold gapT Ln.gap
  rw [if_pos (.inl this)]; rfl
theorem gap_yes {s : ByteArray} {M : Nat} (hz : s.size = M + 1) (h : bytesF s M = 10) : gapT s = [⟨#[]⟩] := by
  obtain ⟨x, hx, hx2⟩ := last_of hz
  have : x = 10 := UInt8.toNat_inj.1 (by show x.toNat = 10; omega)
  subst this
  unfold gapT Ln.gap
  rw [if_pos (.inr hx)]; rfl
theorem gap_no {s : ByteArray} {M : Nat} (hz : s.size = M + 1) (h : bytesF s M ≠ 10) : gapT s = [] := by
  obtain ⟨x, hx, hx2⟩ := last_of hz
  unfold gapT Ln.gap
  rw [if_neg (by
    rintro (e | e)
    · rw [e] at hx; simp at hx
    · rw [hx] at e; cases e; exact h (by rw [← hx2]; rfl))]
  rfl
/-- Two texts with a line feed between. -/
def both (f0 : Nat → Int) (n0 : Nat) (f1 : Nat → Int) : Nat → Int := cat (cat f0 n0 (fun _ => 10)) (n0 + 1) f1
theorem both_bd {f0 f1 : Nat → Int} {n0 : Nat} (h0 : ∀ i, 0 ≤ f0 i ∧ f0 i ≤ 255) (h1 : ∀ i, 0 ≤ f1 i ∧ f1 i ≤ 255) : ∀ i, 0 ≤ both f0 n0 f1 i ∧ both f0 n0 f1 i ≤ 255 :=
  cat_bd (cat_bd h0 (fun _ => by omega)) h1
theorem lns_both {f0 f1 : Nat → Int} {n0 n1 : Nat} (h0 : ∀ i, 0 ≤ f0 i ∧ f0 i ≤ 255) (h1 : ∀ i, 0 ≤ f1 i ∧ f1 i ≤ 255) : lns (str (both f0 n0 f1) (n0 + 1 + n1)) = lns (str f0 n0) ++ gapT (str f0 n0) ++ lns (str f1 n1) := by
  have e := (((St.of h0 n0).append (St.of (f := fun _ => 10) (fun _ => by omega) 1)).append (St.of h1 n1)).eq_str
  have e1 : by_ (str (fun _ => 10) 1) = [10] := by decide +kernel
  have e2 : by_ (str (both f0 n0 f1) (n0 + 1 + n1)) = by_ (str f0 n0) ++ 10 :: by_ (str f1 n1) := by
    unfold both
    rw [← e, by_append, by_append, e1]
    simp
  unfold lns gapT
  rw [e2, Ln.lines_join, List.map_append, List.map_append]
theorem bytesF_str {f : Nat → Int} (hf : ∀ i, 0 ≤ f i ∧ f i ≤ 255) {n i : Nat} (h : i < n) : bytesF (str f n) i = f i := by
  have h1 := (St.any (str f n)).get i (by rw [str_size]; exact h)
  have h2 := (St.of hf n).get i (by rw [str_size]; exact h)
  rw [← h1, h2]

set_option maxRecDepth 100000 in
set_option maxHeartbeats 800000 in
theorem lineJoins_calls (a0 : Option Addr) (n0 c0 : Nat) (f0 : Nat → Int) (a1 : Option Addr) (n1 c1 : Nat) (f1 : Nat → Int) (w : World) (h0 : Sl w a0 n0 c0 f0) (h1 : Sl w a1 n1 c1 f1) (ht : Tab w) :
    Calls Tryd.prog 6 #[.slice a0 n0 c0, .slice a1 n1 c1] w fun e w' => e = .returned (.bool true) ∧ Below w.heap.size w w' := by
  obtain ⟨i0, hi0, hz0, hz1, hz2⟩ := info_parts Tryd.infoU
  obtain ⟨j0, hj0, hy0, hy1, hy2⟩ := info_parts Tryd.infoS
  have HT := hid ht
  clear ht
  by_cases hb0 : 1000 < n0
  · have hb0' : (1000 : Int) < n0 := by omega
    go_enter Tryd.func6, Tryd.ntmps6
    go_wp2_with fail
    refine (fixed06_calls _ HT.out).mono ?_
    rintro e w' ⟨rfl, hb⟩
    go_wp2_with fail
    go_ret
    exact ⟨rfl, hb⟩
  have hb0' : ¬ (1000 : Int) < n0 := by omega
  by_cases hb1 : 1000 < n1
  · have hb1' : (1000 : Int) < n1 := by omega
    go_enter Tryd.func6, Tryd.ntmps6
    go_wp2_with fail
    refine (fixed06_calls _ HT.out).mono ?_
    rintro e w' ⟨rfl, hb⟩
    go_wp2_with fail
    go_ret
    exact ⟨rfl, hb⟩
  have hb1' : ¬ (1000 : Int) < n1 := by omega
  have S0 := hid h0
  have S1 := hid h1
  clear h0 h1
  have hbd := both_bd (n0 := n0) S0.out.bd S1.out.bd
  obtain ⟨A, hA⟩ : ∃ A, lns (str f0 n0) = A := ⟨_, rfl⟩
  obtain ⟨B, hB⟩ : ∃ B, lns (str f1 n1) = B := ⟨_, rfl⟩
  obtain ⟨G, hG⟩ : ∃ G, gapT (str f0 n0) = G := ⟨_, rfl⟩
  have hAl : A.length ≤ 1001 := by rw [← hA]; have := lns_len (str f0 n0); rw [str_size] at this; omega
  have hBl : B.length ≤ 1001 := by rw [← hB]; have := lns_len (str f1 n1); rw [str_size] at this; omega
  have HJ := hid (show lns (str (both f0 n0 f1) (n0 + 1 + n1)) = A ++ G ++ B by rw [lns_both S0.out.bd S1.out.bd, hA, hB, hG])
  have HA := hid hA
  have HB := hid hB
  have HBD := hid hbd
  have HG : Hid (((n0 = 0 ∨ (∃ M, n0 = M + 1 ∧ f0 M = 10)) ∧ G = [⟨#[]⟩]) ∨ ((∃ M, n0 = M + 1 ∧ f0 M ≠ 10) ∧ G = [])) := by
    show _ ∨ _
    rw [← hG]
    cases n0 with
    | zero => exact .inl ⟨.inl rfl, gap_none (str_size _ _)⟩
    | succ M =>
      by_cases h : f0 M = 10
      · exact .inl ⟨.inr ⟨M, rfl, h⟩, gap_yes (str_size _ _) (by rw [bytesF_str S0.out.bd (by omega)]; exact h)⟩
      · exact .inr ⟨⟨M, rfl, h⟩, gap_no (str_size _ _) (by rw [bytesF_str S0.out.bd (by omega)]; exact h)⟩
  clear hA hB hG hbd
  go_enter Tryd.func6, Tryd.ntmps6
  go_wp2_with (at_builtin; refine wpList_append_sl (f := f0) rfl _ _ 22 rfl w.heap.size 5 i0 Tryd.underlying22 hi0 hz0 hz1 hz2 (.slice (some ⟨w.heap.size, 0, none⟩) 0 0) 0 rfl (World.ownsRow_lit w #[] 0 (Nat.le_refl _) (by decide) rfl) a0 n0 c0 f0 rfl (S0.out.below ((Below.refl _ _).alloc (Nat.le_refl _) _)) (by omega) (by simp) ?_)
  intro v1 w1 ho1 hg1
  rw [cat_zero] at ho1
  (try rw [Nat.zero_add] at ho1)
  have bel1 : Below w.heap.size w w1 := ((Below.refl _ _).alloc (Nat.le_refl _) _).grown hg1 (by simp) (fun k hk => by simp [Value.ownBlock] at hk; omega)
  clear hg1
  have sz1 := bel1.size
  go_wp2_with (at_builtin; refine wpList_append_sl rfl _ _ 22 rfl w.heap.size 5 i0 Tryd.underlying22 hi0 hz0 hz1 hz2 v1 n0 f0 rfl (ho1.alloc _) (some ⟨w1.heap.size, 0, none⟩) 1 1 (fun _ => 10) rfl (Sl.one _ _ (fun _ => by omega) rfl) (by omega) (by simp; omega) ?_)
  intro v2 w2 ho2 hg2
  have bel2 : Below w.heap.size w w2 := (bel1.alloc sz1 _).grown hg2 (by simp; omega) (fun k hk => (ho1.lt k hk).1)
  clear hg2 ho1
  have sz2 := bel2.size
  go_wp2_with (at_builtin; refine wpList_append_sl rfl _ _ 22 rfl w.heap.size 5 i0 Tryd.underlying22 hi0 hz0 hz1 hz2 v2 (n0 + 1) _ rfl ho2 a1 n1 c1 f1 rfl (S1.out.below bel2) (by omega) sz2 ?_)
  intro v3 w3 ho3 hg3
  have bel3 : Below w.heap.size w w3 := bel2.grown hg3 sz2 (fun k hk => (ho2.lt k hk).1)
  obtain ⟨a3, c3, hv, hsl3⟩ := Sl.own (f := both f0 n0 f1) ho3 HBD.out
  subst hv
  have B3 := hid bel3
  have SL3 := hid hsl3
  have P3 := hid (S0.out.below bel3)
  have Q3 := hid (S1.out.below bel3)
  have HT3 := hid (HT.out.below bel3)
  clear bel3 hsl3 ho3 hg3 ho2 bel1 bel2 sz1 sz2 S0 S1 HT
  go_wp2_with fail
  refine (lines_calls _ _ _ f0 _ (by omega) P3.out).mono ?_
  rintro e w4 ⟨a4, k4, c4, rfl, t4, hb4⟩
  rw [HA.out] at t4
  have hk4 := t4.len
  have B4 := hid (B3.out.trans (hb4.mono B3.out.size))
  have T4 := hid t4
  have SL4 := hid (SL3.out.below hb4)
  have P4 := hid (P3.out.below hb4)
  have Q4 := hid (Q3.out.below hb4)
  have HT4 := hid (HT3.out.below hb4)
  have sz4 := B4.out.size
  clear t4 hb4 B3 SL3 P3 Q3 HT3
  rcases HG.out with ⟨hgap, hGe⟩ | ⟨⟨M, hM, hf⟩, hGe⟩
  · rcases hgap with h00 | ⟨M, hM, hf⟩
    · have h00' : (n0 : Int) = 0 := by omega
      clear h00
      go_wp2_with (at_builtin; refine wpList_append_src rfl _ _ 25 rfl w4.heap.size 9 j0 (.string ⟨#[]⟩) 1 16 Tryd.underlying25 hj0 hy0 hy1 hy2 rfl (by decide) (.slice (some ⟨w4.heap.size, 0, none⟩) 0 0) 0 [] rfl (own_empty w4.heap.size rfl (Nat.le_refl _)) a4 k4 c4 (tv A) rfl (T4.out.below ((Below.refl _ _).alloc (Nat.le_refl _) _)).src (by unfold maxLen; omega) (by omega) (by simp) ?_)
      intro v5 w5 ho5 hg5 _
      clear h00'
      have hb5 : Below w4.heap.size w4 w5 := ((Below.refl _ _).alloc (Nat.le_refl _) _).grown hg5 (by simp) (fun k hk => by simp [Value.ownBlock] at hk; omega)
      have B5 := hid hb5
      have O5 := hid ho5
      have sz5 := B5.out.size
      clear ho5 hg5 hb5
      go_wp2_with (at_builtin; refine wpList_append_src rfl _ _ 25 rfl w4.heap.size 9 j0 (.string ⟨#[]⟩) 1 16 Tryd.underlying25 hj0 hy0 hy1 hy2 rfl (by decide) v5 k4 (tv A) rfl (O5.out.alloc _) (some ⟨w5.heap.size, 0, none⟩) 1 1 [.string ⟨#[]⟩] rfl (src_text ⟨#[]⟩ _) (by unfold maxLen; omega) (by omega) (by simp; omega) ?_)
      intro v6 w6 ho6 hg6 _
      have hb6 : Below w4.heap.size w4 w6 := (B5.out.alloc sz5 _).grown hg6 (by simp; omega) (fun j hj => (O5.out.lt j hj).1)
      obtain ⟨a6, c6, rfl, t6⟩ := Ts.ofOwn (xs := A ++ [⟨#[]⟩]) (by rw [← tv_append]; exact ho6)
      obtain ⟨k6, hk6⟩ : ∃ k6, k4 + 1 = k6 := ⟨_, rfl⟩
      rw [hk6] at t6
      rw [hk6]
      have T6 := hid t6
      have SL6 := hid (SL4.out.below hb6)
      have Q6 := hid (Q4.out.below hb6)
      have HT6 := hid (HT4.out.below hb6)
      have B6 := hid (B4.out.trans (hb6.mono sz4))
      have hA6 := t6.len
      clear t6 ho6 hg6 hb6 B5 O5 sz5 T4 SL4 Q4 HT4 B4
      go_wp2_with (at_builtin; refine wpList_append_src rfl _ _ 25 rfl w6.heap.size 9 j0 (.string ⟨#[]⟩) 1 16 Tryd.underlying25 hj0 hy0 hy1 hy2 rfl (by decide) (.slice (some ⟨w6.heap.size, 0, none⟩) 0 0) 0 [] rfl (own_empty w6.heap.size rfl (Nat.le_refl _)) a6 k6 c6 (tv (A ++ [⟨#[]⟩])) rfl (T6.out.below ((Below.refl _ _).alloc (Nat.le_refl _) _)).src (by unfold maxLen; omega) (by omega) (by simp) ?_)
      intro v7 w7 ho7 hg7 _
      have hb7 : Below w6.heap.size w6 w7 := ((Below.refl _ _).alloc (Nat.le_refl _) _).grown hg7 (by simp) (fun k hk => by simp [Value.ownBlock] at hk; omega)
      have B7 := hid hb7
      have O7 := hid ho7
      have Q7 := hid (Q6.out.below hb7)
      clear ho7 hg7 hb7
      go_wp2_with fail
      refine (lines_calls _ _ _ f1 _ (by omega) Q7.out).mono ?_
      rintro e w8 ⟨a8, k8, c8, rfl, t8, hb8⟩
      rw [HB.out] at t8
      have hk8 := t8.len
      have B8 := hid (B7.out.trans (hb8.mono B7.out.size))
      have O8 := hid (own_below O7.out hb8)
      have T8 := hid t8
      have sz8 := B8.out.size
      clear t8 hb8 B7 O7 Q7
      go_wp2_with (at_builtin; refine wpList_append_src rfl _ _ 25 rfl w6.heap.size 9 j0 (.string ⟨#[]⟩) 1 16 Tryd.underlying25 hj0 hy0 hy1 hy2 rfl (by decide) v7 k6 (tv (A ++ [⟨#[]⟩])) rfl O8.out a8 k8 c8 (tv B) rfl T8.out.src (by unfold maxLen; omega) (by omega) sz8 ?_)
      intro v9 w9 ho9 hg9 _
      have hb9 : Below w6.heap.size w6 w9 := B8.out.grown hg9 sz8 (fun j hj => (O8.out.lt j hj).1)
      rw [tv_append] at ho9
      obtain ⟨a9, c9, rfl, t9⟩ := Ts.ofOwn ho9
      have T9 := hid t9
      have SL9 := hid (SL6.out.below hb9)
      have HT9 := hid (HT6.out.below hb9)
      have B9 := hid (B6.out.trans (hb9.mono B6.out.size))
      clear ho9 hg9 hb9 t9 B8 O8 T8
      go_wp2_with fail
      refine (fixed06_calls _ HT9.out).mono ?_
      rintro e w10 ⟨rfl, hb10⟩
      have B10 := hid (B9.out.trans (hb10.mono B9.out.size))
      have SL10 := hid (SL9.out.below hb10)
      have T10 := hid (T9.out.below hb10)
      clear hb10
      go_wp2_with fail
      refine (lines_calls _ _ _ (both f0 n0 f1) _ (by omega) SL10.out).mono ?_
      rintro e w11 ⟨a11, k11, c11, rfl, t11, hb11⟩
      rw [HJ.out, hGe] at t11
      have hk11 := t11.len
      have hkk : k6 + k8 = k11 := T10.out.len.symm.trans hk11
      have B11 := hid (B10.out.trans (hb11.mono B10.out.size))
      have T11 := hid t11
      have T9b := hid (T10.out.below hb11)
      rw [hkk] at T9b
      clear t11 hb11
      rw [hkk]
      go_wp2_with fail
      refine (same_yes T11.out T9b.out (by omega)).mono ?_
      rintro e w12 ⟨rfl, d12, hw12⟩
      have B12 : Hid (Below w.heap.size w w12) := by rw [hw12]; exact below_drewN B11.out d12
      clear hw12
      go_wp2_with fail
      go_ret
      exact ⟨rfl, B12.out⟩
    · have hn0 : ¬ (n0 : Int) = 0 := by omega
      obtain ⟨b, off, rfl, hblt, hc⟩ := P4.out.at' (by omega)
      have q := hc M (by omega)
      have l0 : (0 : Int) ≤ M := by omega
      have l1 : (M : Int) < n0 := by omega
      have e1 : IntKind.i64.wrap ((n0 : Int) - 1) = M := by rw [i64_in (by omega) (by omega)]; omega
      clear hc hM
      rw [hf] at q
      go_wp2_with (at_builtin; refine wpList_append_src rfl _ _ 25 rfl w4.heap.size 9 j0 (.string ⟨#[]⟩) 1 16 Tryd.underlying25 hj0 hy0 hy1 hy2 rfl (by decide) (.slice (some ⟨w4.heap.size, 0, none⟩) 0 0) 0 [] rfl (own_empty w4.heap.size rfl (Nat.le_refl _)) a4 k4 c4 (tv A) rfl (T4.out.below ((Below.refl _ _).alloc (Nat.le_refl _) _)).src (by unfold maxLen; omega) (by omega) (by simp) ?_)
      intro v5 w5 ho5 hg5 _
      have hb5 : Below w4.heap.size w4 w5 := ((Below.refl _ _).alloc (Nat.le_refl _) _).grown hg5 (by simp) (fun k hk => by simp [Value.ownBlock] at hk; omega)
      have B5 := hid hb5
      have O5 := hid ho5
      have sz5 := B5.out.size
      clear ho5 hg5 hb5
      go_wp2_with (at_builtin; refine wpList_append_src rfl _ _ 25 rfl w4.heap.size 9 j0 (.string ⟨#[]⟩) 1 16 Tryd.underlying25 hj0 hy0 hy1 hy2 rfl (by decide) v5 k4 (tv A) rfl (O5.out.alloc _) (some ⟨w5.heap.size, 0, none⟩) 1 1 [.string ⟨#[]⟩] rfl (src_text ⟨#[]⟩ _) (by unfold maxLen; omega) (by omega) (by simp; omega) ?_)
      intro v6 w6 ho6 hg6 _
      have hb6 : Below w4.heap.size w4 w6 := (B5.out.alloc sz5 _).grown hg6 (by simp; omega) (fun j hj => (O5.out.lt j hj).1)
      obtain ⟨a6, c6, rfl, t6⟩ := Ts.ofOwn (xs := A ++ [⟨#[]⟩]) (by rw [← tv_append]; exact ho6)
      obtain ⟨k6, hk6⟩ : ∃ k6, k4 + 1 = k6 := ⟨_, rfl⟩
      rw [hk6] at t6
      rw [hk6]
      have T6 := hid t6
      have SL6 := hid (SL4.out.below hb6)
      have Q6 := hid (Q4.out.below hb6)
      have HT6 := hid (HT4.out.below hb6)
      have B6 := hid (B4.out.trans (hb6.mono sz4))
      have hA6 := t6.len
      clear t6 ho6 hg6 hb6 B5 O5 sz5 T4 SL4 Q4 HT4 B4
      go_wp2_with (at_builtin; refine wpList_append_src rfl _ _ 25 rfl w6.heap.size 9 j0 (.string ⟨#[]⟩) 1 16 Tryd.underlying25 hj0 hy0 hy1 hy2 rfl (by decide) (.slice (some ⟨w6.heap.size, 0, none⟩) 0 0) 0 [] rfl (own_empty w6.heap.size rfl (Nat.le_refl _)) a6 k6 c6 (tv (A ++ [⟨#[]⟩])) rfl (T6.out.below ((Below.refl _ _).alloc (Nat.le_refl _) _)).src (by unfold maxLen; omega) (by omega) (by simp) ?_)
      intro v7 w7 ho7 hg7 _
      have hb7 : Below w6.heap.size w6 w7 := ((Below.refl _ _).alloc (Nat.le_refl _) _).grown hg7 (by simp) (fun k hk => by simp [Value.ownBlock] at hk; omega)
      have B7 := hid hb7
      have O7 := hid ho7
      have Q7 := hid (Q6.out.below hb7)
      clear ho7 hg7 hb7
      go_wp2_with fail
      refine (lines_calls _ _ _ f1 _ (by omega) Q7.out).mono ?_
      rintro e w8 ⟨a8, k8, c8, rfl, t8, hb8⟩
      rw [HB.out] at t8
      have hk8 := t8.len
      have B8 := hid (B7.out.trans (hb8.mono B7.out.size))
      have O8 := hid (own_below O7.out hb8)
      have T8 := hid t8
      have sz8 := B8.out.size
      clear t8 hb8 B7 O7 Q7
      go_wp2_with (at_builtin; refine wpList_append_src rfl _ _ 25 rfl w6.heap.size 9 j0 (.string ⟨#[]⟩) 1 16 Tryd.underlying25 hj0 hy0 hy1 hy2 rfl (by decide) v7 k6 (tv (A ++ [⟨#[]⟩])) rfl O8.out a8 k8 c8 (tv B) rfl T8.out.src (by unfold maxLen; omega) (by omega) sz8 ?_)
      intro v9 w9 ho9 hg9 _
      have hb9 : Below w6.heap.size w6 w9 := B8.out.grown hg9 sz8 (fun j hj => (O8.out.lt j hj).1)
      rw [tv_append] at ho9
      obtain ⟨a9, c9, rfl, t9⟩ := Ts.ofOwn ho9
      have T9 := hid t9
      have SL9 := hid (SL6.out.below hb9)
      have HT9 := hid (HT6.out.below hb9)
      have B9 := hid (B6.out.trans (hb9.mono B6.out.size))
      clear ho9 hg9 hb9 t9 B8 O8 T8
      go_wp2_with fail
      refine (fixed06_calls _ HT9.out).mono ?_
      rintro e w10 ⟨rfl, hb10⟩
      have B10 := hid (B9.out.trans (hb10.mono B9.out.size))
      have SL10 := hid (SL9.out.below hb10)
      have T10 := hid (T9.out.below hb10)
      clear hb10
      go_wp2_with fail
      refine (lines_calls _ _ _ (both f0 n0 f1) _ (by omega) SL10.out).mono ?_
      rintro e w11 ⟨a11, k11, c11, rfl, t11, hb11⟩
      rw [HJ.out, hGe] at t11
      have hk11 := t11.len
      have hkk : k6 + k8 = k11 := T10.out.len.symm.trans hk11
      have B11 := hid (B10.out.trans (hb11.mono B10.out.size))
      have T11 := hid t11
      have T9b := hid (T10.out.below hb11)
      rw [hkk] at T9b
      clear t11 hb11
      rw [hkk]
      go_wp2_with fail
      refine (same_yes T11.out T9b.out (by omega)).mono ?_
      rintro e w12 ⟨rfl, d12, hw12⟩
      have B12 : Hid (Below w.heap.size w w12) := by rw [hw12]; exact below_drewN B11.out d12
      clear hw12
      go_wp2_with fail
      go_ret
      exact ⟨rfl, B12.out⟩
  · have hn0 : ¬ (n0 : Int) = 0 := by omega
    obtain ⟨b, off, rfl, hblt, hc⟩ := P4.out.at' (by omega)
    have q := hc M (by omega)
    have l0 : (0 : Int) ≤ M := by omega
    have l1 : (M : Int) < n0 := by omega
    have e1 : IntKind.i64.wrap ((n0 : Int) - 1) = M := by rw [i64_in (by omega) (by omega)]; omega
    clear hc hM
    have hq : (f0 M == 10) = false := by simpa using hf
    go_wp2_with (at_builtin; refine wpList_append_src rfl _ _ 25 rfl w4.heap.size 9 j0 (.string ⟨#[]⟩) 1 16 Tryd.underlying25 hj0 hy0 hy1 hy2 rfl (by decide) (.slice (some ⟨w4.heap.size, 0, none⟩) 0 0) 0 [] rfl (own_empty w4.heap.size rfl (Nat.le_refl _)) a4 k4 c4 (tv A) rfl (T4.out.below ((Below.refl _ _).alloc (Nat.le_refl _) _)).src (by unfold maxLen; omega) (by omega) (by simp) ?_)
    intro v7 w7 ho7 hg7 _
    have hb7 : Below w4.heap.size w4 w7 := ((Below.refl _ _).alloc (Nat.le_refl _) _).grown hg7 (by simp) (fun k hk => by simp [Value.ownBlock] at hk; omega)
    have B7 := hid hb7
    have O7 := hid ho7
    have Q7 := hid (Q4.out.below hb7)
    clear ho7 hg7 hb7
    go_wp2_with fail
    refine (lines_calls _ _ _ f1 _ (by omega) Q7.out).mono ?_
    rintro e w8 ⟨a8, k8, c8, rfl, t8, hb8⟩
    rw [HB.out] at t8
    have hk8 := t8.len
    have B8 := hid (B7.out.trans (hb8.mono B7.out.size))
    have O8 := hid (own_below O7.out hb8)
    have T8 := hid t8
    have sz8 := B8.out.size
    clear t8 hb8 B7 O7 Q7
    go_wp2_with (at_builtin; refine wpList_append_src rfl _ _ 25 rfl w4.heap.size 9 j0 (.string ⟨#[]⟩) 1 16 Tryd.underlying25 hj0 hy0 hy1 hy2 rfl (by decide) v7 k4 (tv A) rfl O8.out a8 k8 c8 (tv B) rfl T8.out.src (by unfold maxLen; omega) (by omega) sz8 ?_)
    intro v9 w9 ho9 hg9 _
    have hb9 : Below w4.heap.size w4 w9 := B8.out.grown hg9 sz8 (fun j hj => (O8.out.lt j hj).1)
    rw [tv_append] at ho9
    obtain ⟨a9, c9, rfl, t9⟩ := Ts.ofOwn ho9
    have T9 := hid t9
    have SL9 := hid (SL4.out.below hb9)
    have HT9 := hid (HT4.out.below hb9)
    have B9 := hid (B4.out.trans (hb9.mono B4.out.size))
    clear ho9 hg9 hb9 t9 B8 O8 T8
    go_wp2_with fail
    refine (fixed06_calls _ HT9.out).mono ?_
    rintro e w10 ⟨rfl, hb10⟩
    have B10 := hid (B9.out.trans (hb10.mono B9.out.size))
    have SL10 := hid (SL9.out.below hb10)
    have T10 := hid (T9.out.below hb10)
    clear hb10
    go_wp2_with fail
    refine (lines_calls _ _ _ (both f0 n0 f1) _ (by omega) SL10.out).mono ?_
    rintro e w11 ⟨a11, k11, c11, rfl, t11, hb11⟩
    rw [HJ.out, hGe, List.append_nil] at t11
    have hk11 := t11.len
    have hkk : k4 + k8 = k11 := T10.out.len.symm.trans hk11
    have B11 := hid (B10.out.trans (hb11.mono B10.out.size))
    have T11 := hid t11
    have T9b := hid (T10.out.below hb11)
    rw [hkk] at T9b
    clear t11 hb11
    rw [hkk]
    go_wp2_with fail
    refine (same_yes T11.out T9b.out (by omega)).mono ?_
    rintro e w12 ⟨rfl, d12, hw12⟩
    have B12 : Hid (Below w.heap.size w w12) := by rw [hw12]; exact below_drewN B11.out d12
    clear hw12
    go_wp2_with fail
    go_ret
    exact ⟨rfl, B12.out⟩
end Go.Proofs.YtjbcjlpincblcaaDoor
