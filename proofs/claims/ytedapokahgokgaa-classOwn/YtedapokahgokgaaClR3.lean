/-
  The walk of the reference's Usual.
-/
import Derived.Test.YtedapokahgokgaaClR2
import Derived.Test.YtedapokahgokgaaClU
import Derived.Great.BuildSlice
namespace Go.Proofs.Ytedapokahgokgaa
open Go.RowKit
set_option linter.unusedVariables false

def rl1 : List Int := [65, 90, 97, 122, 170, 170, 181, 181, 186, 186, 192, 214, 216, 246, 248, 705, 880, 883, 886, 887, 891, 893, 895, 895, 902, 902, 904, 1013, 1015, 1153, 1162, 1327, 1329, 1366, 1377, 1415, 1488, 1514, 1568, 1610, 2308, 2361, 3585, 3632, 4256, 4351, 4352, 4680, 7680, 8124, 12353, 12438, 12449, 12538, 19968, 40959, 44032, 55203, 131072, 173791]
def rl2 : List Int := [48, 57, 178, 179, 185, 185, 188, 190, 1632, 1641, 2406, 2415, 8544, 8584, 65296, 65305]
def rl3 : List Int := [10, 10, 13, 13]
def rl4 : List Int := [9, 9, 11, 12, 32, 32, 133, 133, 160, 160, 5760, 5760, 8192, 8202, 8232, 8233, 8239, 8239, 8287, 8287, 12288, 12288]
/-- The reference's usual table, in its own order. -/
def rTab : List (Int × Int × Int) := [(65, 90, 1), (97, 122, 1), (170, 170, 1), (181, 181, 1), (186, 186, 1), (192, 214, 1), (216, 246, 1), (248, 705, 1), (880, 883, 1), (886, 887, 1), (891, 893, 1), (895, 895, 1), (902, 902, 1), (904, 1013, 1), (1015, 1153, 1), (1162, 1327, 1), (1329, 1366, 1), (1377, 1415, 1), (1488, 1514, 1), (1568, 1610, 1), (2308, 2361, 1), (3585, 3632, 1), (4256, 4351, 1), (4352, 4680, 1), (7680, 8124, 1), (12353, 12438, 1), (12449, 12538, 1), (19968, 40959, 1), (44032, 55203, 1), (131072, 173791, 1), (48, 57, 2), (178, 179, 2), (185, 185, 2), (188, 190, 2), (1632, 1641, 2), (2406, 2415, 2), (8544, 8584, 2), (65296, 65305, 2), (10, 10, 4), (13, 13, 4), (9, 9, 3), (11, 12, 3), (32, 32, 3), (133, 133, 3), (160, 160, 3), (5760, 5760, 3), (8192, 8202, 3), (8232, 8233, 3), (8239, 8239, 3), (8287, 8287, 3), (12288, 12288, 3)]
/-- A table's cells. -/
def tvals (T : List (Int × Int × Int)) : List Value := T.flatMap fun x => [.int .i64 x.1, .int .i64 x.2.1, .int .i64 x.2.2]
def at0 (l : List Int) (i : Nat) : Int := l.getD i 0
theorem rTab_is : rvals 1 (at0 rl1) 30 ++ (rvals 2 (at0 rl2) 8 ++ (rvals 4 (at0 rl3) 2 ++ rvals 3 (at0 rl4) 11)) = tvals rTab := by kernel_rfl

theorem lit_cells (w : World) (t : TypeId) (l : List Int) (b : Nat) (hb : b = w.heap.size) (i : Nat) (hi : i < l.length) : (w.alloc (.cells (l.map (Value.int .i64)).toArray t)).cell? ⟨b, i, none⟩ = some (.int .i64 (at0 l i)) := by
  subst hb
  rw [World.cell?_alloc_at _ _ _ _ rfl]
  simp [at0, hi]
theorem rvals_length (c : Int) (f : Nat → Int) (m : Nat) : (rvals c f m).length = m * 3 := by
  induction m with
  | zero => rfl
  | succ m ih => rw [← rvals_snoc, List.length_append, ih]; simp; omega
theorem rvals_one (c : Int) (f : Nat → Int) (m : Nat) : ∀ u ∈ rvals c f m, u.oneCell' = true := by
  intro u hu
  simp only [rvals, List.mem_flatMap] at hu
  obtain ⟨i, _, hi⟩ := hu
  simp at hi
  rcases hi with rfl | rfl | rfl <;> rfl

set_option maxRecDepth 100000 in
set_option maxHeartbeats 3200000 in
theorem rusual_calls (w : World) :
    Calls Try.prog 13 #[] w fun e w' => ∃ v, e = .returned v ∧ w'.ownsRow w.heap.size 31 3 v 51 (tvals rTab) ∧ Below w.heap.size w w' := by
  obtain ⟨i0, hi0, hz0, hz1, hz2⟩ := info_parts Try.infoR
  have hsz : (Try.prog.info? 3).map (·.size) = some 1 := by kernel_rfl
  have hzz : ((Try.prog.info? 3).bind (·.zero)).isSome = true := by kernel_rfl
  have HSZ := hid hsz
  have HZZ := hid hzz
  clear hsz hzz
  go_enter Try.func13, Try.ntmps13
  go_wp2_with (refine wpList_buildFlat rfl 36 3 60 _ rfl .i64 rl1 Try.underlying36 HSZ.out HZZ.out rfl (by omega) (by decide) (by kernel_rfl) ?_)
  have C1 := hid (lit_cells w 3 rl1 w.heap.size rfl)
  have B1 := hid ((Below.refl w.heap.size w).alloc (Nat.le_refl _) (.cells (rl1.map (Value.int .i64)).toArray 3))
  have s1 : (w.alloc (.cells (rl1.map (Value.int .i64)).toArray 3)).heap.size = w.heap.size + 1 := by simp
  generalize w.alloc (.cells (rl1.map (Value.int .i64)).toArray 3) = w1 at *
  have S1 := hid s1
  clear s1
  refine (row_calls 1 w.heap.size 60 60 (at0 rl1) w1 (Nat.le_refl _) (by omega) (by have := S1.out; omega) (fun i hi => C1.out i hi)).mono ?_
  rintro e w2 ⟨v2, rfl, own2, b2⟩
  have O2 := hid (own2.mono (show w.heap.size ≤ w1.heap.size by have := S1.out; omega))
  have B2 := hid (B1.out.trans (b2.mono B1.out.size))
  clear own2 b2
  go_wp2_with (refine wpList_buildFlat rfl 36 3 16 _ rfl .i64 rl2 Try.underlying36 HSZ.out HZZ.out rfl (by omega) (by decide) (by kernel_rfl) ?_)
  have C2 := hid (lit_cells w2 3 rl2 w2.heap.size rfl)
  have D2 := hid ((B2.out).alloc B2.out.size (.cells (rl2.map (Value.int .i64)).toArray 3))
  have P2 := hid (O2.out.alloc (.cells (rl2.map (Value.int .i64)).toArray 3))
  have s2 : (w2.alloc (.cells (rl2.map (Value.int .i64)).toArray 3)).heap.size = w2.heap.size + 1 := by simp
  generalize w2.alloc (.cells (rl2.map (Value.int .i64)).toArray 3) = x2 at *
  have S2 := hid s2
  clear s2
  refine (row_calls 2 w2.heap.size 16 16 (at0 rl2) x2 (Nat.le_refl _) (by omega) (by have := S2.out; omega) (fun i hi => C2.out i hi)).mono ?_
  rintro e y2 ⟨r2, rfl, own, b⟩
  have Q2 := hid (own_below P2.out b)
  have E2 := hid (D2.out.trans (b.mono D2.out.size))
  obtain ⟨g2, cap2, rfl, _, gl2⟩ := own.form (by omega)
  have N2 := hid (own.cells (g := g2) rfl)
  clear own b
  go_wp2_with (at_builtin; refine wpList_append_lies _ rfl _ _ 22 rfl w.heap.size 31 i0 _ 3 24 Try.underlying22 hi0 hz0 hz1 hz2 rfl (by omega) v2 30 _ rfl Q2.out ⟨g2, 0, none⟩ 8 cap2 (rvals 2 (at0 rl2) 8) rfl (rvals_length _ _ _) N2.out (rvals_one _ _ _) (by omega) (by unfold maxLen; omega) (by omega) E2.out.size _ rfl ?_)
  intro h2 k2 z2 ho2 hg2 _ _
  have O2' := hid ho2
  have B2' := hid (E2.out.grown hg2 E2.out.size (fun k hk => (Q2.out.lt k hk).1))
  clear ho2 hg2
  go_wp2_with (refine wpList_buildFlat rfl 36 3 4 _ rfl .i64 rl3 Try.underlying36 HSZ.out HZZ.out rfl (by omega) (by decide) (by kernel_rfl) ?_)
  have C3 := hid (lit_cells z2 3 rl3 z2.heap.size rfl)
  have D3 := hid ((B2'.out).alloc B2'.out.size (.cells (rl3.map (Value.int .i64)).toArray 3))
  have P3 := hid (O2'.out.alloc (.cells (rl3.map (Value.int .i64)).toArray 3))
  have s3 : (z2.alloc (.cells (rl3.map (Value.int .i64)).toArray 3)).heap.size = z2.heap.size + 1 := by simp
  generalize z2.alloc (.cells (rl3.map (Value.int .i64)).toArray 3) = x3 at *
  have S3 := hid s3
  clear s3
  refine (row_calls 4 z2.heap.size 4 4 (at0 rl3) x3 (Nat.le_refl _) (by omega) (by have := S3.out; omega) (fun i hi => C3.out i hi)).mono ?_
  rintro e y3 ⟨r3, rfl, own, b⟩
  have Q3 := hid (own_below P3.out b)
  have E3 := hid (D3.out.trans (b.mono D3.out.size))
  obtain ⟨g3, cap3, rfl, _, gl3⟩ := own.form (by omega)
  have N3 := hid (own.cells (g := g3) rfl)
  clear own b
  go_wp2_with (at_builtin; refine wpList_append_lies _ rfl _ _ 22 rfl w.heap.size 31 i0 _ 3 24 Try.underlying22 hi0 hz0 hz1 hz2 rfl (by omega) _ 38 _ rfl Q3.out ⟨g3, 0, none⟩ 2 cap3 (rvals 4 (at0 rl3) 2) rfl (rvals_length _ _ _) N3.out (rvals_one _ _ _) (by omega) (by unfold maxLen; omega) (by omega) E3.out.size _ rfl ?_)
  intro h3 k3 z3 ho3 hg3 _ _
  have O3' := hid ho3
  have B3' := hid (E3.out.grown hg3 E3.out.size (fun k hk => (Q3.out.lt k hk).1))
  clear ho3 hg3
  go_wp2_with (refine wpList_buildFlat rfl 36 3 22 _ rfl .i64 rl4 Try.underlying36 HSZ.out HZZ.out rfl (by omega) (by decide) (by kernel_rfl) ?_)
  have C4 := hid (lit_cells z3 3 rl4 z3.heap.size rfl)
  have D4 := hid ((B3'.out).alloc B3'.out.size (.cells (rl4.map (Value.int .i64)).toArray 3))
  have P4 := hid (O3'.out.alloc (.cells (rl4.map (Value.int .i64)).toArray 3))
  have s4 : (z3.alloc (.cells (rl4.map (Value.int .i64)).toArray 3)).heap.size = z3.heap.size + 1 := by simp
  generalize z3.alloc (.cells (rl4.map (Value.int .i64)).toArray 3) = x4 at *
  have S4 := hid s4
  clear s4
  refine (row_calls 3 z3.heap.size 22 22 (at0 rl4) x4 (Nat.le_refl _) (by omega) (by have := S4.out; omega) (fun i hi => C4.out i hi)).mono ?_
  rintro e y4 ⟨r4, rfl, own, b⟩
  have Q4 := hid (own_below P4.out b)
  have E4 := hid (D4.out.trans (b.mono D4.out.size))
  obtain ⟨g4, cap4, rfl, _, gl4⟩ := own.form (by omega)
  have N4 := hid (own.cells (g := g4) rfl)
  clear own b
  go_wp2_with (at_builtin; refine wpList_append_lies _ rfl _ _ 22 rfl w.heap.size 31 i0 _ 3 24 Try.underlying22 hi0 hz0 hz1 hz2 rfl (by omega) _ 40 _ rfl Q4.out ⟨g4, 0, none⟩ 11 cap4 (rvals 3 (at0 rl4) 11) rfl (rvals_length _ _ _) N4.out (rvals_one _ _ _) (by omega) (by unfold maxLen; omega) (by omega) E4.out.size _ rfl ?_)
  intro h4 k4 z4 ho4 hg4 _ _
  have O4' := hid ho4
  have B4' := hid (E4.out.grown hg4 E4.out.size (fun k hk => (Q4.out.lt k hk).1))
  clear ho4 hg4
  go_wp2_with fail
  go_ret
  refine ⟨_, rfl, ?_, B4'.out⟩
  have := O4'.out
  rw [rTab_is] at this
  exact this
end Go.Proofs.Ytedapokahgokgaa
