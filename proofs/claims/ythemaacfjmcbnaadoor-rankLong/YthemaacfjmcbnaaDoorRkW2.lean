/-
  The walk of rank.Read.
-/
import Derived.Test.YthemaacfjmcbnaaDoorRkW1
import Derived.Deep.LoopGhost
namespace Go.Proofs.YthemaacfjmcbnaaDoor
open Go.RowKit
set_option linter.unusedVariables false

/-- What Read answers of a file of these lines. -/
def RdOut (ls : List ByteArray) (e : Ending) (w' : World) : Prop :=
  ∃ rows a k cap line err, e = .returned (.tuple #[.slice a k cap, .agg #[.int .i64 line, .int .i64 err]]) ∧ Rw w' a k cap rows ∧ Rk.FileIs ls rows line err

theorem Tryd.infoR : (Tryd.prog.info? 25).map (fun i => (i.zero, i.size, i.bytes)) = some (some (.agg #[.string ⟨#[]⟩, .int .i64 0]), 2, 24) := by kernel_rfl

set_option maxRecDepth 100000 in
set_option maxHeartbeats 3200000 in
theorem read_calls (a : Option Addr) (n c : Nat) (f : Nat → Int) (w : World) (hn : n ≤ 100000) (hS : Sl w a n c f) (hk : (lns (str f n)).length ≤ 4096) :
    Calls Tryd.prog 9 #[.slice a n c] w fun e w' => RdOut (lns (str f n)) e w' ∧ Below w.heap.size w w' := by
  obtain ⟨i0, hi, hz0, hz1, hz2⟩ := info_parts Tryd.infoR
  have S0 := hid (hS.below ((Below.refl _ w).alloc (Nat.le_refl _) (.cells #[.int .i64 0, .int .i64 0] 33)))
  clear hS
  obtain ⟨X, hX⟩ : ∃ X, str f n = X := ⟨_, rfl⟩
  have hXs : X.size = n := by rw [← hX]; exact str_size f n
  rw [hX] at hk ⊢
  go_enter Tryd.func9, Tryd.ntmps9
  go_wp2_with fail
  refine (lines_calls a n c f _ hn S0.out).mono ?_
  rintro e w1 ⟨a1, k, c1, rfl, t1, hb1⟩
  rw [hX] at t1
  have T1 := hid t1
  have hl := t1.len
  have X1 := hid ((Bx2.new w 33 (.int .i64 0) (.int .i64 0)).below hb1 (by simp))
  have B1 := hid (((Below.refl w.heap.size w).alloc (Nat.le_refl _) (.cells #[.int .i64 0, .int .i64 0] 33)).trans (hb1.mono (by simp)))
  have HX := hid hX
  clear hb1 t1 hX
  go_wp2_with fail
  go_loopg [4, 12] k (fun r v iv wr => ∃ j : Nat, r = k - j ∧ j ≤ k ∧ iv = .int .i64 j ∧ Hid (∀ i, i < j → Rk.Er (at_ (lns X) i) 0) ∧ Hid (wr.ownsRow w1.heap.size 25 2 v j (rv (((lns X).map Rk.row).take j))) ∧ Hid (Below w1.heap.size w1 wr))
  case atStart => exact ⟨0, rfl, by omega, rfl, hid (fun i hi => by omega), hid (World.ownsRow_nil _ _ _ _), hid (Below.refl _ _)⟩
  case round =>
    obtain ⟨j, rfl, hj, rfl, HE, HO, HB⟩ := hrel
    have B2 := hid (B1.out.trans (HB.out.mono B1.out.size))
    by_cases hlt : j < k
    · have k1 : (j : Int) < k := by omega
      have k0 : (0 : Int) ≤ j := by omega
      have e2 : IntKind.i64.wrap ((j : Int) + 1) = j + 1 := i64_in (by omega) (by omega)
      have k9 : ¬ (4096 : Int) ≤ j := by omega
      obtain ⟨b, off, rfl, hbl, hc⟩ := (T1.out.below HB.out).at' (by omega)
      have q := hc j hlt
      obtain ⟨s, hs⟩ : ∃ s, at_ (lns X) j = s := ⟨_, rfl⟩
      have hss : s.size ≤ n := by rw [← hs, ← hXs]; exact Rk.lns_le
      rw [hs] at q
      have HSS := hid hs
      clear hc hs
      go_wp2_with fail
      refine (rowOf_calls s _ (by omega)).mono ?_
      rintro e w2 ⟨ho, hb2⟩
      have B3 := hid (B2.out.trans (hb2.mono B2.out.size))
      have HB3 := hid (HB.out.trans (hb2.mono HB.out.size))
      have O3 := hid (own_below HO.out hb2)
      clear hb2 q
      rcases ho with ⟨hE, rfl⟩ | ⟨c', hE, hc0, rfl⟩
      · have HEr := hid hE
        have B3s := B3.out.size
        have HB3s := HB3.out.size
        clear hE
        go_wp2_with (at_builtin; refine wpList_append_src rfl _ _ 22 rfl w1.heap.size 25 i0 (.agg #[.string ⟨#[]⟩, .int .i64 0]) 2 24 Tryd.underlying22 hi hz0 hz1 hz2 rfl (by decide) _ _ _ rfl ((O3.out.alloc _).alloc _) (some ⟨w2.heap.size + 1, 0, none⟩) 1 1 [.string (Rk.tok s), .int .i64 (Rk.num s)] rfl (by simpa using src_row (w := w2.alloc (.cells #[.string (Rk.tok s), .int .i64 (Rk.num s)] 25)) (Rk.tok s) (Rk.num s) 25) (by unfold maxLen; omega) (by omega) (by simp; omega) ?_)
        intro v5 w5 ho5 hg5 _
        have HB5 := hid (((HB3.out.alloc HB3s _).alloc (by simp; omega) _).grown hg5 (by simp; omega) (fun j hj => (O3.out.lt j hj).1))
        have O5 := hid (show w5.ownsRow w1.heap.size 25 2 v5 (j + 1) (rv (((lns X).map Rk.row).take (j + 1))) by
          rw [rv_snoc] at ho5
          rw [Rk.take_row (by omega) HSS.out]
          exact ho5)
        clear ho5 hg5
        go_wp2_with fail
        go_roundg (k - (j + 1))
        case measure => omega
        case rel => exact ⟨j + 1, rfl, by omega, by go_num, hid (fun i hi => by
          by_cases h : i < j
          · exact HE.out i h
          · obtain rfl : i = j := by omega
            rw [HSS.out]; exact HEr.out), O5, HB5⟩
      · have HEr := hid hE
        have X3 := hid (X1.out.below HB3.out X1.out.lt)
        have X4 := hid (X3.out.alloc (.cells #[.string ⟨#[]⟩, .int .i64 0] 25))
        have B4 := hid (B3.out.alloc B3.out.size (.cells #[.string ⟨#[]⟩, .int .i64 0] 25))
        clear hE
        have q0' := X4.out.cell0
        have q1' := X4.out.cell1
        have p0' := X4.out.fr0
        have p1' := X4.out.fr1
        have X5 := X4.out.set0 (.int .i64 ((j : Int) + 1))
        have q3 := X5.cell1
        have p3 := X5.fr1
        have X6 := X5.set1 (.int .i64 c')
        have r0 := X6.cell0
        have r1 := X6.cell1
        have BB := hid (below_two B4.out (Nat.le_refl _) (.int .i64 ((j : Int) + 1)) (.int .i64 c'))
        clear X5 X6
        go_wp2_with fail
        refine bodyPost_ret (v := .tuple #[.slice none 0 0, .agg #[.int .i64 ((j : Int) + 1), .int .i64 c']]) (by simp [results, Tryd.results9, go_sem, r0, r1]) rfl ?_
        exact ⟨⟨[], none, 0, 0, (j : Int) + 1, c', rfl, Rw.none _ _ _ (Nat.zero_le _) (fun _ => rfl), .inr ⟨j, by omega, HE.out, by rw [HSS.out]; exact HEr.out, hc0, rfl, rfl⟩⟩, BB.out⟩
    · obtain rfl : j = k := by omega
      have k1 : ¬ (j : Int) < j := by omega
      have X3 := hid (X1.out.below HB.out X1.out.lt)
      obtain ⟨a5, c5, rfl, hr5⟩ := Rw.ofOwn HO.out
      have R5 := hid (Rw.ofOwn' (own_two HO.out (B := w.heap.size) (by have := X1.out.lt; omega) (.int .i64 0) (.int .i64 0)))
      rw [List.take_of_length_le (by rw [List.length_map]; omega)] at R5
      clear hr5 HO
      have q0' := X3.out.cell0
      have q1' := X3.out.cell1
      have p0' := X3.out.fr0
      have p1' := X3.out.fr1
      have X5 := X3.out.set0 (.int .i64 0)
      have q3 := X5.cell1
      have p3 := X5.fr1
      have X6 := X5.set1 (.int .i64 0)
      have r0 := X6.cell0
      have r1 := X6.cell1
      have BB := hid (below_two B2.out (Nat.le_refl _) (.int .i64 0) (.int .i64 0))
      clear X5 X6
      go_wp2_with fail
      refine bodyPost_ret (v := .tuple #[.slice a5 j c5, .agg #[.int .i64 0, .int .i64 0]]) (by simp [results, Tryd.results9, go_sem, r0, r1]) rfl ?_
      exact ⟨⟨(lns X).map Rk.row, a5, j, c5, 0, 0, rfl, R5.out, .inl ⟨fun i hi => HE.out i (by omega), rfl, rfl, rfl⟩⟩, BB.out⟩
end Go.Proofs.YthemaacfjmcbnaaDoor
