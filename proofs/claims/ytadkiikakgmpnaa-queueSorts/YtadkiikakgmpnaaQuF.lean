/-
  The chapter's example; entries compared as structs.
-/
import Derived.Test.YtadkiikakgmpnaaQuS
import Derived.Laws.StructEq
namespace Go.Proofs.Ytadkiikakgmpnaa
open Go.RowKit Go.Maps Hp
set_option linter.unusedVariables false
theorem Try.stoodEn : Try.prog.stoodInHeld 28 = false := by kernel_rfl
theorem Try.fieldsEn : Try.prog.underlying 28 = some (.struct (Try.prog.fieldsOf 28)) := by kernel_rfl
theorem Try.neqEn (x0 x1 x2 : Int) (w : World) : (binOp .neq 28 (.agg #[.int .i64 x0, .int .i64 x1, .int .i64 x2]) (.agg #[.int .i64 x0, .int .i64 x1, .int .i64 x2])).run Try.prog w = .ok (.bool false) w := by
  rw [run_neq_struct, run_equalIn_agg w _ _ _ _ Try.fieldsEn Try.stoodEn]
  simp [Program.fieldsOf, Try.underlying28, Try.underlying3, Op.eqFields, go_sem]
set_option maxRecDepth 100000 in
set_option maxHeartbeats 6400000 in
theorem qfixed_calls (w : World) : Calls Try.prog 7 #[] w fun e w' => e = .returned (.bool true) ∧ Below w.heap.size w w' := by
  go_enter Try.func7, Try.ntmps7
  go_wp2_with fail
  refine (snew w w (Below.refl _ _)).mono ?_
  rintro e w1 ⟨O, M, v1, rfl, s1, _, _, _, _⟩
  have S1 := hid s1
  clear s1
  go_wp2_with fail
  refine (sput S1.out (5, 1, 0) (by decide) (by decide)).mono ?_
  rintro e w2 ⟨rfl, v2, s2, _, _⟩
  have S2 := hid s2
  clear s2 S1
  go_wp2_with fail
  refine (sput S2.out (2, 1, 0) (by decide) (by decide)).mono ?_
  rintro e w3 ⟨rfl, v3, s3, _, _⟩
  have S3 := hid s3
  clear s3 S2
  go_wp2_with fail
  refine (sput S3.out (9, 0, 0) (by decide) (by decide)).mono ?_
  rintro e w4 ⟨rfl, v4, s4, _, _⟩
  have S4 := hid (show Sq w w4 O M v4 [(5, 1, 0), (2, 1, 0), (9, 0, 0)] (fun _ => False) from s4)
  clear s4 S3
  go_wp2_with fail
  refine (stake S4.out (by decide)).mono ?_
  rintro e w5 (⟨h, _⟩ | ⟨x, hx, hl, rfl, v5, s5, _, _⟩)
  · cases h
  obtain rfl : x = (9, 0, 0) := by
    simp only [List.mem_cons, List.not_mem_nil, or_false] at hx
    rcases hx with rfl | rfl | rfl
    · exact absurd (show lt (9, 0, 0) (5, 1, 0) from .inl (by decide)) (hl _ (by simp))
    · exact absurd (show lt (9, 0, 0) (2, 1, 0) from .inl (by decide)) (hl _ (by simp))
    · rfl
  have S5 := hid ((show Sq w w5 O M v5 [(5, 1, 0), (2, 1, 0)] (fun _ => False) from s5).grow (w' := w5.alloc (.cells #[.int .i64 9, .int .i64 0, .int .i64 0] 28)) ((Below.refl _ _).alloc (Nat.le_refl _) _) (X' := fun k => k = w5.heap.size) (fun k hk => .inr ⟨by omega, by simp; omega⟩))
  have P5 := hid (Bl.new w5 9 0 0)
  unfold va
  clear s5 hx hl S4
  go_wp2_with fail
  obtain ⟨K1, hK1⟩ : ∃ K, w5.heap.size = K := ⟨_, rfl⟩
  obtain ⟨W5, hW5⟩ : ∃ W, w5.alloc (.cells #[.int .i64 9, .int .i64 0, .int .i64 0] 28) = W := ⟨_, rfl⟩
  rw [hW5, hK1] at S5 P5
  rw [hW5, hK1]
  clear hW5 hK1
  refine (stake S5.out (by decide)).mono ?_
  rintro e w6 (⟨h, _⟩ | ⟨x, hx, hl, rfl, v6, s6, k6, _⟩)
  · cases h
  obtain rfl : x = (2, 1, 0) := by
    simp only [List.mem_cons, List.not_mem_nil, or_false] at hx
    rcases hx with rfl | rfl
    · exact absurd (show lt (2, 1, 0) (5, 1, 0) from .inr ⟨rfl, by decide⟩) (hl _ (by simp))
    · rfl
  have P6 := hid ((P5.out.at (k6 K1 rfl)).below ((Below.refl _ _).alloc (Nat.le_refl _) (.cells #[.int .i64 2, .int .i64 1, .int .i64 0] 28)))
  have S6 := hid ((show Sq w w6 O M v6 [(5, 1, 0)] (fun k => k = K1) from s6).grow (w' := w6.alloc (.cells #[.int .i64 2, .int .i64 1, .int .i64 0] 28)) ((Below.refl _ _).alloc (Nat.le_refl _) _) (X' := fun k => k = K1 ∨ k = w6.heap.size) (fun k hk => hk.imp id (fun hk => ⟨by omega, by simp; omega⟩)))
  have Q6 := hid (Bl.new w6 2 1 0)
  unfold va
  clear s6 k6 hx hl S5 P5
  go_wp2_with fail
  obtain ⟨K2, hK2⟩ : ∃ K, w6.heap.size = K := ⟨_, rfl⟩
  obtain ⟨W6, hW6⟩ : ∃ W, w6.alloc (.cells #[.int .i64 2, .int .i64 1, .int .i64 0] 28) = W := ⟨_, rfl⟩
  rw [hW6, hK2] at S6 Q6
  rw [hW6] at P6
  rw [hW6, hK2]
  clear hW6 hK2
  refine (stake S6.out (by decide)).mono ?_
  rintro e w7 (⟨h, _⟩ | ⟨x, hx, hl, rfl, v7, s7, k7, _⟩)
  · cases h
  obtain rfl : x = (5, 1, 0) := by
    simp only [List.mem_cons, List.not_mem_nil, or_false] at hx
    exact hx
  have bb := (Below.refl w7.heap.size w7).alloc (Nat.le_refl _) (.cells #[.int .i64 5, .int .i64 1, .int .i64 0] 28)
  have P7 := hid ((P6.out.at (k7 K1 (.inl rfl))).below bb)
  have Q7 := hid ((Q6.out.at (k7 K2 (.inr rfl))).below bb)
  have S7 := hid ((show Sq w w7 O M v7 [] (fun k => k = K1 ∨ k = K2) from s7).grow bb (X' := fun k => k = K1 ∨ k = K2) (fun k hk => .inl hk))
  have R7 := hid (Bl.new w7 5 1 0)
  unfold va
  clear s7 k7 hx hl S6 P6 Q6 bb
  have c0 := P7.out.c0
  have c1 := Q7.out.c0
  have c2 := R7.out.c0
  simp only at c0 c1 c2
  go_wp2_with fail
  refine (alen_calls S7.out.q).mono ?_
  rintro e w8 ⟨rfl, hw8⟩
  subst hw8
  go_wp2_with fail
  go_ret
  exact ⟨rfl, S7.out.below⟩
end Go.Proofs.Ytadkiikakgmpnaa
