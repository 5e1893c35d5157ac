/-
  The walk of merge.Read.
-/
import Derived.Test.YtecbmonbeogdjaaDoorMgW2
namespace Go.Proofs.YtecbmonbeogdjaaDoor
open Go.RowKit
set_option linter.unusedVariables false

theorem step_calls (B M st fn : Nat) (wh : Bool) (s : ByteArray) (w : World) (vr vp : Value) (rs : Mg.Rows) (ps : Mg.Prs) (hsz : s.size ≤ 100000) (hr : rs.length < 4096) (hp : ps.length < 16384) (hf : Phase st fn wh) (h : Rdr w B M fn wh vr vp rs ps) :
    Calls Tryd.prog fn #[.pointer (some ⟨B, 0, none⟩), .string s] w fun e w' => StOut w B M st rs ps s e w' := by
  rcases hf with ⟨rfl, rfl, rfl⟩ | ⟨rfl, rfl, rfl⟩ | ⟨rfl, rfl, rfl⟩
  · exact mfirst_calls B M s w vr vp rs ps h
  · exact mrow_calls B M s w vr vp rs ps hsz hr h
  · exact mpair_calls B M s w vr vp rs ps hsz hp h

theorem Bx4.no_text {w : World} {B : Nat} {t : TypeId} {f : Fn} {a c : Array Value} {wh : Bool} {ar ap : Option Addr} {n1 c1 n2 c2 : Nat} (h : Bx4 w B t (.func f a c) (.bool wh) (.slice ar n1 c1) (.slice ap n2 c2)) (i : Nat) (s : ByteArray) : w.cell? ⟨B, i, none⟩ ≠ some (.string s) := by
  match i with
  | 0 => rw [h.cell0]; simp
  | 1 => rw [h.cell1]; simp
  | 2 => rw [h.cell2]; simp
  | 3 => rw [h.cell3]; simp
  | i + 4 => simp [World.cell?, show w.heap[B]? = _ from h]

/-- What Read answers of a file of these lines. -/
def MdOut (ls : List ByteArray) (e : Ending) (w' : World) : Prop :=
  ∃ rs ps ar nr cr ap np cp line err, e = .returned (.tuple #[.agg #[.slice ar nr cr, .slice ap np cp], .agg #[.int .i64 line, .int .i64 err]]) ∧ Rw w' ar nr cr rs ∧ Pw w' ap np cp ps ∧ Mg.FileIs ls rs ps line err

set_option maxRecDepth 100000 in
set_option maxHeartbeats 3200000 in
theorem mRead_calls (a : Option Addr) (n c : Nat) (f : Nat → Int) (w : World) (hn : n ≤ 100000) (hS : Sl w a n c f) (hk : (lns (str f n)).length ≤ 4096) :
    Calls Tryd.prog 10 #[.slice a n c] w fun e w' => MdOut (lns (str f n)) e w' ∧ Below w.heap.size w w' := by
  obtain ⟨X, hX⟩ : ∃ X, str f n = X := ⟨_, rfl⟩
  have hXs : X.size = n := by rw [← hX]; exact str_size f n
  rw [hX] at hk ⊢
  have HX := hid hX
  clear hX
  have S0 := hid hS
  clear hS
  have X0 := hid ((((Bx2.new w 25 (.slice none 0 0) (.slice none 0 0)).alloc (.cells #[.int .i64 0, .int .i64 0] 35)).alloc (.cells #[.func (.func 22) #[.pointer (some ⟨w.heap.size + 1 + 1, 0, none⟩)] #[], .bool false, .slice none 0 0, .slice none 0 0] 56)))
  have Z0 := hid ((Bx2.new (w.alloc (.cells #[.slice none 0 0, .slice none 0 0] 25)) 35 (.int .i64 0) (.int .i64 0)).alloc (.cells #[.func (.func 22) #[.pointer (some ⟨w.heap.size + 1 + 1, 0, none⟩)] #[], .bool false, .slice none 0 0, .slice none 0 0] 56))
  have R0 := hid (Bx4.new ((w.alloc (.cells #[.slice none 0 0, .slice none 0 0] 25)).alloc (.cells #[.int .i64 0, .int .i64 0] 35)) 56 (.func (.func 22) #[.pointer (some ⟨w.heap.size + 1 + 1, 0, none⟩)] #[]) (.bool false) (.slice none 0 0) (.slice none 0 0))
  have B0 := hid ((((Below.refl w.heap.size w).alloc (Nat.le_refl _) (.cells #[.slice none 0 0, .slice none 0 0] 25)).alloc (by simp) (.cells #[.int .i64 0, .int .i64 0] 35)).alloc (by simp; omega) (.cells #[.func (.func 22) #[.pointer (some ⟨w.heap.size + 1 + 1, 0, none⟩)] #[], .bool false, .slice none 0 0, .slice none 0 0] 56))
  rw [World.size_alloc] at Z0
  rw [World.size_alloc, World.size_alloc] at R0
  go_enter Tryd.func10, Tryd.ntmps10
  go_wp2_with fail
  obtain ⟨W0, hW0⟩ : ∃ W0, (((w.alloc (.cells #[.slice none 0 0, .slice none 0 0] 25)).alloc (.cells #[.int .i64 0, .int .i64 0] 35)).alloc (.cells #[.func (.func 22) #[.pointer (some ⟨w.heap.size + 1 + 1, 0, none⟩)] #[], .bool false, .slice none 0 0, .slice none 0 0] 56)) = W0 := ⟨_, rfl⟩
  rw [hW0] at X0 Z0 R0 B0 ⊢
  clear hW0
  refine (lines_calls a n c f _ hn (S0.out.below B0.out)).mono ?_
  rintro e w1 ⟨a1, k, c1, rfl, t1, hb1⟩
  rw [HX.out] at t1
  have T1 := hid t1
  have hl := t1.len
  obtain ⟨R, hR⟩ : ∃ R, w.heap.size = R := ⟨_, rfl⟩
  have HR := hid hR
  rw [hR] at X0 Z0 R0 ⊢
  obtain ⟨F, hF⟩ : ∃ F, R + 1 = F := ⟨_, rfl⟩
  rw [hF] at Z0 R0 ⊢
  obtain ⟨B, hB⟩ : ∃ B, F + 1 = B := ⟨_, rfl⟩
  rw [hB] at R0 ⊢
  have HF := hid hF
  have HBB := hid hB
  clear hR hF hB
  have X1 := hid (X0.out.below hb1 X0.out.lt)
  have Z1 := hid (Z0.out.below hb1 Z0.out.lt)
  have B1 := hid (B0.out.trans (hb1.mono B0.out.size))
  have q1 := hid (R0.out.below hb1 R0.out.lt)
  have R1 := hid (show Rdr w1 B w1.heap.size 22 false (.slice none 0 0) (.slice none 0 0) [] [] from ⟨q1.out, World.ownsRow_nil _ _ _ _, World.ownsRow_nil _ _ _ _, q1.out.lt, Nat.le_refl _⟩)
  obtain ⟨M, hM⟩ : ∃ M, w1.heap.size = M := ⟨_, rfl⟩
  have HM := hid hM
  rw [hM] at R1
  clear hb1 t1 X0 Z0 R0 B0 hM
  go_wp2_with fail
  go_loopg [20] k (fun r iv wr => ∃ (j st fn : Nat) (wh : Bool) (vr vp : Value) (rs : Mg.Rows) (ps : Mg.Prs), r = k - j ∧ j ≤ k ∧ iv = .int .i64 j ∧ Hid (Phase st fn wh) ∧ Hid (Mg.Run (lns X) j st rs ps) ∧ Hid (Rdr wr B M fn wh vr vp rs ps) ∧ Hid (Mut (rdB B M) w1 wr))
  case atStart => exact ⟨0, 0, _, false, _, _, [], [], rfl, by omega, rfl, hid (.inl ⟨rfl, rfl, rfl⟩), hid (Mg.Run.zero _), R1, hid (Mut.refl _ _)⟩
  case round =>
    obtain ⟨j, st, fn, wh, vr, vp, rs, ps, rfl, hj, rfl, HP, HU, HD, HT⟩ := hrel
    have hRF : ¬ rdB B M R := by
      have := HR.out; have := HF.out; have := HBB.out; have := X1.out.lt; have := HM.out
      rintro (h | h) <;> omega
    have hFF : ¬ rdB B M F := by
      have := HR.out; have := HF.out; have := HBB.out; have := Z1.out.lt; have := HM.out
      rintro (h | h) <;> omega
    have X2 := hid (X1.out.mut HT.out hRF)
    have Z2 := hid (Z1.out.mut HT.out hFF)
    have hRFne : R ≠ F := by have := HF.out; omega
    have B2 := hid (B1.out.trans (HT.out.below (B := w.heap.size) (by have := B1.out.size; omega) (fun k hk => by
      have := HR.out; have := HF.out; have := HBB.out; have := B1.out.size; have := HM.out
      rcases hk with h | h <;> omega)))
    by_cases hlt : j < k
    · have k1 : (j : Int) < k := by omega
      have k0 : (0 : Int) ≤ j := by omega
      have e2 : IntKind.i64.wrap ((j : Int) + 1) = j + 1 := i64_in (by omega) (by omega)
      obtain ⟨b, off, rfl, hbl, hc⟩ := T1.out.at' (by omega)
      have q := hc j hlt
      obtain ⟨s, hs⟩ : ∃ s, at_ (lns X) j = s := ⟨_, rfl⟩
      have hss : s.size ≤ n := by rw [← hs, ← hXs]; exact Rk.lns_le
      rw [hs] at q
      have hbB : b ≠ B := fun e => by subst e; exact q1.out.no_text _ _ q
      have q2 : wr.cell? ⟨b, off + j, none⟩ = some (.string s) := by
        rw [HT.out.cell hbl (by have := HM.out; rintro (h | h) <;> omega)]; exact q
      have HSS := hid hs
      have c0 := HD.out.blk.cell0
      have hlen := HU.out.len
      clear hc hs q
      rcases HP.out with ⟨rfl, rfl, rfl⟩ | ⟨rfl, rfl, rfl⟩ | ⟨rfl, rfl, rfl⟩
      · go_wp2_with fail
        refine (step_calls B M 0 _ _ s _ vr vp rs ps (by omega) (by omega) (by omega) HP.out HD.out).mono ?_
        rintro e w2 ⟨ho, hm2⟩
        have HT2 := hid (HT.out.trans hm2 (fun _ _ e => e))
        clear hm2
        rcases ho with ⟨st', fn', wh', vr', vp', rs', ps', rfl, hP', hS', hD'⟩ | ⟨c', hE, rfl⟩
        · have HP' := hid hP'
          have HU' := hid (HU.out.step HSS.out hS')
          have HD' := hid hD'
          clear hP' hS' hD'
          go_wp2_with fail
          go_roundg (k - (j + 1))
          case measure => omega
          case rel => exact ⟨j + 1, st', fn', wh', vr', vp', rs', ps', rfl, by omega, by go_num, HP', HU', HD', HT2⟩
        · have HE := hid hE
          have hnz : ¬ c' = 0 := hE.nz
          have X3 := hid (X1.out.mut HT2.out hRF)
          have Z3 := hid (Z1.out.mut HT2.out hFF)
          have B3 := hid (B1.out.trans (HT2.out.below (B := w.heap.size) (by have := B1.out.size; omega) (fun k hk => by
            have := HR.out; have := HF.out; have := HBB.out; have := B1.out.size; have := HM.out
            rcases hk with h | h <;> omega)))
          have BB := hid (below_four B3.out (R := R) (F := F) (by have := HR.out; omega) (by have := HR.out; have := HF.out; omega) (.slice none 0 0) (.slice none 0 0) (.int .i64 ((j : Int) + 1)) (.int .i64 c'))
          obtain ⟨y1, y2, y3, y4, y5, y6⟩ := ret_four X3.out Z3.out hRFne (.slice none 0 0) (.slice none 0 0) (.int .i64 ((j : Int) + 1)) (.int .i64 c')
          have p0 := X3.out.cell0
          have p1 := X3.out.cell1
          have p2 := X3.out.fr0
          have p3 := X3.out.fr1
          have p4 := y1.cell1
          have p5 := y1.fr1
          have p6 := y3.cell0
          have p7 := y3.fr0
          have p8 := y4.cell1
          have p9 := y4.fr1
          have r0 := y5.cell0
          have r1 := y5.cell1
          have r2 := y6.cell0
          have r3 := y6.cell1
          unfold four at r0 r1 r2 r3
          clear y1 y2 y3 y4 y5 y6 hE
          go_wp2_with fail
          refine bodyPost_ret (v := .tuple #[.agg #[.slice none 0 0, .slice none 0 0], .agg #[.int .i64 ((j : Int) + 1), .int .i64 c']]) (by simp [results, Tryd.results10, go_sem, r0, r1, r2, r3]) rfl ?_
          exact ⟨⟨[], [], none, 0, 0, none, 0, 0, (j : Int) + 1, c', rfl, Rw.none _ _ _ (Nat.zero_le _) (fun _ => rfl), Pw.none _ _ _ (Nat.zero_le _) (fun _ => rfl), .inr (.inr ⟨rfl, rfl, j, 0, rs, ps, by omega, HU.out, by rw [HSS.out]; exact HE.out, rfl⟩)⟩, BB.out⟩
      · go_wp2_with fail
        refine (step_calls B M 1 _ _ s _ vr vp rs ps (by omega) (by omega) (by omega) HP.out HD.out).mono ?_
        rintro e w2 ⟨ho, hm2⟩
        have HT2 := hid (HT.out.trans hm2 (fun _ _ e => e))
        clear hm2
        rcases ho with ⟨st', fn', wh', vr', vp', rs', ps', rfl, hP', hS', hD'⟩ | ⟨c', hE, rfl⟩
        · have HP' := hid hP'
          have HU' := hid (HU.out.step HSS.out hS')
          have HD' := hid hD'
          clear hP' hS' hD'
          go_wp2_with fail
          go_roundg (k - (j + 1))
          case measure => omega
          case rel => exact ⟨j + 1, st', fn', wh', vr', vp', rs', ps', rfl, by omega, by go_num, HP', HU', HD', HT2⟩
        · have HE := hid hE
          have hnz : ¬ c' = 0 := hE.nz
          have X3 := hid (X1.out.mut HT2.out hRF)
          have Z3 := hid (Z1.out.mut HT2.out hFF)
          have B3 := hid (B1.out.trans (HT2.out.below (B := w.heap.size) (by have := B1.out.size; omega) (fun k hk => by
            have := HR.out; have := HF.out; have := HBB.out; have := B1.out.size; have := HM.out
            rcases hk with h | h <;> omega)))
          have BB := hid (below_four B3.out (R := R) (F := F) (by have := HR.out; omega) (by have := HR.out; have := HF.out; omega) (.slice none 0 0) (.slice none 0 0) (.int .i64 ((j : Int) + 1)) (.int .i64 c'))
          obtain ⟨y1, y2, y3, y4, y5, y6⟩ := ret_four X3.out Z3.out hRFne (.slice none 0 0) (.slice none 0 0) (.int .i64 ((j : Int) + 1)) (.int .i64 c')
          have p0 := X3.out.cell0
          have p1 := X3.out.cell1
          have p2 := X3.out.fr0
          have p3 := X3.out.fr1
          have p4 := y1.cell1
          have p5 := y1.fr1
          have p6 := y3.cell0
          have p7 := y3.fr0
          have p8 := y4.cell1
          have p9 := y4.fr1
          have r0 := y5.cell0
          have r1 := y5.cell1
          have r2 := y6.cell0
          have r3 := y6.cell1
          unfold four at r0 r1 r2 r3
          clear y1 y2 y3 y4 y5 y6 hE
          go_wp2_with fail
          refine bodyPost_ret (v := .tuple #[.agg #[.slice none 0 0, .slice none 0 0], .agg #[.int .i64 ((j : Int) + 1), .int .i64 c']]) (by simp [results, Tryd.results10, go_sem, r0, r1, r2, r3]) rfl ?_
          exact ⟨⟨[], [], none, 0, 0, none, 0, 0, (j : Int) + 1, c', rfl, Rw.none _ _ _ (Nat.zero_le _) (fun _ => rfl), Pw.none _ _ _ (Nat.zero_le _) (fun _ => rfl), .inr (.inr ⟨rfl, rfl, j, 1, rs, ps, by omega, HU.out, by rw [HSS.out]; exact HE.out, rfl⟩)⟩, BB.out⟩
      · go_wp2_with fail
        refine (step_calls B M 2 _ _ s _ vr vp rs ps (by omega) (by omega) (by omega) HP.out HD.out).mono ?_
        rintro e w2 ⟨ho, hm2⟩
        have HT2 := hid (HT.out.trans hm2 (fun _ _ e => e))
        clear hm2
        rcases ho with ⟨st', fn', wh', vr', vp', rs', ps', rfl, hP', hS', hD'⟩ | ⟨c', hE, rfl⟩
        · have HP' := hid hP'
          have HU' := hid (HU.out.step HSS.out hS')
          have HD' := hid hD'
          clear hP' hS' hD'
          go_wp2_with fail
          go_roundg (k - (j + 1))
          case measure => omega
          case rel => exact ⟨j + 1, st', fn', wh', vr', vp', rs', ps', rfl, by omega, by go_num, HP', HU', HD', HT2⟩
        · have HE := hid hE
          have hnz : ¬ c' = 0 := hE.nz
          have X3 := hid (X1.out.mut HT2.out hRF)
          have Z3 := hid (Z1.out.mut HT2.out hFF)
          have B3 := hid (B1.out.trans (HT2.out.below (B := w.heap.size) (by have := B1.out.size; omega) (fun k hk => by
            have := HR.out; have := HF.out; have := HBB.out; have := B1.out.size; have := HM.out
            rcases hk with h | h <;> omega)))
          have BB := hid (below_four B3.out (R := R) (F := F) (by have := HR.out; omega) (by have := HR.out; have := HF.out; omega) (.slice none 0 0) (.slice none 0 0) (.int .i64 ((j : Int) + 1)) (.int .i64 c'))
          obtain ⟨y1, y2, y3, y4, y5, y6⟩ := ret_four X3.out Z3.out hRFne (.slice none 0 0) (.slice none 0 0) (.int .i64 ((j : Int) + 1)) (.int .i64 c')
          have p0 := X3.out.cell0
          have p1 := X3.out.cell1
          have p2 := X3.out.fr0
          have p3 := X3.out.fr1
          have p4 := y1.cell1
          have p5 := y1.fr1
          have p6 := y3.cell0
          have p7 := y3.fr0
          have p8 := y4.cell1
          have p9 := y4.fr1
          have r0 := y5.cell0
          have r1 := y5.cell1
          have r2 := y6.cell0
          have r3 := y6.cell1
          unfold four at r0 r1 r2 r3
          clear y1 y2 y3 y4 y5 y6 hE
          go_wp2_with fail
          refine bodyPost_ret (v := .tuple #[.agg #[.slice none 0 0, .slice none 0 0], .agg #[.int .i64 ((j : Int) + 1), .int .i64 c']]) (by simp [results, Tryd.results10, go_sem, r0, r1, r2, r3]) rfl ?_
          exact ⟨⟨[], [], none, 0, 0, none, 0, 0, (j : Int) + 1, c', rfl, Rw.none _ _ _ (Nat.zero_le _) (fun _ => rfl), Pw.none _ _ _ (Nat.zero_le _) (fun _ => rfl), .inr (.inr ⟨rfl, rfl, j, 2, rs, ps, by omega, HU.out, by rw [HSS.out]; exact HE.out, rfl⟩)⟩, BB.out⟩
    · obtain rfl : j = k := by omega
      have k1 : ¬ (j : Int) < j := by omega
      have e2 : IntKind.i64.wrap ((j : Int) + 1) = j + 1 := i64_in (by omega) (by omega)
      have HL := hid hl
      rcases HP.out with ⟨rfl, rfl, rfl⟩ | ⟨rfl, rfl, rfl⟩ | ⟨rfl, rfl, rfl⟩
      · have c1 := HD.out.blk.cell1
        have BB := hid (below_four B2.out (R := R) (F := F) (by have := HR.out; omega) (by have := HR.out; have := HF.out; omega) (.slice none 0 0) (.slice none 0 0) (.int .i64 ((j : Int) + 1)) (.int .i64 2))
        obtain ⟨y1, y2, y3, y4, y5, y6⟩ := ret_four X2.out Z2.out hRFne (.slice none 0 0) (.slice none 0 0) (.int .i64 ((j : Int) + 1)) (.int .i64 2)
        have p0 := X2.out.cell0
        have p1 := X2.out.cell1
        have p2 := X2.out.fr0
        have p3 := X2.out.fr1
        have p4 := y1.cell1
        have p5 := y1.fr1
        have p6 := y3.cell0
        have p7 := y3.fr0
        have p8 := y4.cell1
        have p9 := y4.fr1
        have r0 := y5.cell0
        have r1 := y5.cell1
        have r2 := y6.cell0
        have r3 := y6.cell1
        unfold four at r0 r1 r2 r3
        clear y1 y2 y3 y4 y5 y6
        go_wp2_with fail
        refine bodyPost_ret (v := .tuple #[.agg #[.slice none 0 0, .slice none 0 0], .agg #[.int .i64 ((j : Int) + 1), .int .i64 2]]) (by simp [results, Tryd.results10, go_sem, r0, r1, r2, r3]) rfl ?_
        exact ⟨⟨[], [], none, 0, 0, none, 0, 0, (j : Int) + 1, 2, rfl, Rw.none _ _ _ (Nat.zero_le _) (fun _ => rfl), Pw.none _ _ _ (Nat.zero_le _) (fun _ => rfl), .inr (.inl ⟨rfl, rfl, 0, rs, ps, by omega, by rw [HL.out]; exact HU.out, by rw [HL.out], rfl⟩)⟩, BB.out⟩
      · have c1 := HD.out.blk.cell1
        have BB := hid (below_four B2.out (R := R) (F := F) (by have := HR.out; omega) (by have := HR.out; have := HF.out; omega) (.slice none 0 0) (.slice none 0 0) (.int .i64 ((j : Int) + 1)) (.int .i64 2))
        obtain ⟨y1, y2, y3, y4, y5, y6⟩ := ret_four X2.out Z2.out hRFne (.slice none 0 0) (.slice none 0 0) (.int .i64 ((j : Int) + 1)) (.int .i64 2)
        have p0 := X2.out.cell0
        have p1 := X2.out.cell1
        have p2 := X2.out.fr0
        have p3 := X2.out.fr1
        have p4 := y1.cell1
        have p5 := y1.fr1
        have p6 := y3.cell0
        have p7 := y3.fr0
        have p8 := y4.cell1
        have p9 := y4.fr1
        have r0 := y5.cell0
        have r1 := y5.cell1
        have r2 := y6.cell0
        have r3 := y6.cell1
        unfold four at r0 r1 r2 r3
        clear y1 y2 y3 y4 y5 y6
        go_wp2_with fail
        refine bodyPost_ret (v := .tuple #[.agg #[.slice none 0 0, .slice none 0 0], .agg #[.int .i64 ((j : Int) + 1), .int .i64 2]]) (by simp [results, Tryd.results10, go_sem, r0, r1, r2, r3]) rfl ?_
        exact ⟨⟨[], [], none, 0, 0, none, 0, 0, (j : Int) + 1, 2, rfl, Rw.none _ _ _ (Nat.zero_le _) (fun _ => rfl), Pw.none _ _ _ (Nat.zero_le _) (fun _ => rfl), .inr (.inl ⟨rfl, rfl, 1, rs, ps, by omega, by rw [HL.out]; exact HU.out, by rw [HL.out], rfl⟩)⟩, BB.out⟩
      · have c1 := HD.out.blk.cell1
        obtain ⟨ar, cr, rfl, hrw⟩ := Rw.ofOwn HD.out.rows
        obtain ⟨ap, cp, rfl, hpw⟩ := Pw.ofOwn HD.out.pairs
        have c2 := HD.out.blk.cell2
        have c3 := HD.out.blk.cell3
        clear hrw hpw
        have hRM : R < M := by have := X1.out.lt; have := HM.out; omega
        have hFM : F < M := by have := Z1.out.lt; have := HM.out; omega
        have OR := hid (Rw.ofOwn' (own_four HD.out.rows hRM hFM (.slice ar rs.length cr) (.slice ap ps.length cp) (.int .i64 0) (.int .i64 0)))
        have OP := hid (Pw.ofOwn' (own_four HD.out.pairs hRM hFM (.slice ar rs.length cr) (.slice ap ps.length cp) (.int .i64 0) (.int .i64 0)))
        have BB := hid (below_four B2.out (R := R) (F := F) (by have := HR.out; omega) (by have := HR.out; have := HF.out; omega) (.slice ar rs.length cr) (.slice ap ps.length cp) (.int .i64 0) (.int .i64 0))
        obtain ⟨y1, y2, y3, y4, y5, y6⟩ := ret_four X2.out Z2.out hRFne (.slice ar rs.length cr) (.slice ap ps.length cp) (.int .i64 0) (.int .i64 0)
        have p0 := X2.out.cell0
        have p1 := X2.out.cell1
        have p2 := X2.out.fr0
        have p3 := X2.out.fr1
        have p4 := y1.cell1
        have p5 := y1.fr1
        have p6 := y3.cell0
        have p7 := y3.fr0
        have p8 := y4.cell1
        have p9 := y4.fr1
        have r0 := y5.cell0
        have r1 := y5.cell1
        have r2 := y6.cell0
        have r3 := y6.cell1
        unfold four at r0 r1 r2 r3
        clear y1 y2 y3 y4 y5 y6
        go_wp2_with fail
        refine bodyPost_ret (v := .tuple #[.agg #[.slice ar rs.length cr, .slice ap ps.length cp], .agg #[.int .i64 0, .int .i64 0]]) (by simp [results, Tryd.results10, go_sem, r0, r1, r2, r3]) rfl ?_
        exact ⟨⟨rs, ps, ar, rs.length, cr, ap, ps.length, cp, 0, 0, rfl, OR.out, OP.out, .inl ⟨by rw [HL.out]; exact HU.out, rfl, rfl⟩⟩, BB.out⟩
end Go.Proofs.YtecbmonbeogdjaaDoor
