/-
  Walk of vocab.mergesOfCuts.
-/
import Derived.Test.YtjpboackbjfenaaVcS4
namespace Go.Proofs.Ytjpboackbjfenaa
open Go.RowKit Go.Maps
set_option linter.unusedVariables false

theorem Try.infoMg : (Try.prog.info? 54).map (fun i => (i.zero, i.size, i.bytes)) = some (some (.agg #[.int .i64 0, .int .i64 0, .int .i64 0, .int .i64 0]), 4, 32) := by kernel_rfl

theorem NumsIn.num {w : World} {M n : Nat} {ts : Vc.Toks} (h : NumsIn w M ts n) (hn : ts.length = n) (s : ByteArray) (hs : s.size ≤ maxLen) :
    ∃ (c : Int) (t : Bool), (Instr.lookup 65 (.map (some M)) (.string s) true).run Try.prog w = .ok (.tuple #[.int .i64 c, .bool t]) w ∧ ((t = true ∧ ∃ k : Nat, c = k ∧ Vc.num ts s = some k) ∨ (t = false ∧ Vc.num ts s = none)) := by
  subst hn
  exact h.look s hs

set_option maxRecDepth 100000 in
set_option maxHeartbeats 3200000 in
theorem mergesOfCuts_calls {w : World} {a : Option Addr} {n c : Nat} {ts : Vc.Toks} (V : Ts w a n c ts) (hT : Vc.MayT ts) :
    Calls Try.prog 34 #[.slice a n c] w fun e w' => (∃ am nm cm ms, e = .returned (.slice am nm cm) ∧ Hi w.heap.size am ∧ Vc.CutsIs ts ms ∧ Qw w' am nm cm ms) ∧ Below w.heap.size w w' := by
  have hl := V.len
  have hn : n ≤ 4096 := by rw [← hl]; exact hT.len
  have TW := hid V
  have HT := hid hT
  have HZ := hid (show ∀ i, i < n → (at_ ts i).size ≤ 64 from fun i hi => hT.sz i (by omega))
  clear V hT
  obtain ⟨i0, hi, hz0, hz1, hz2⟩ := info_parts Try.infoMg
  go_enter Try.func34, Try.ntmps34
  go_wp2_with fail
  refine (numbersOf_calls TW.out hn (fun i hi => Nat.le_trans (HZ.out i hi) (by decide))).mono ?_
  rintro e w1 ⟨rfl, hN, b1⟩
  have HN := hid hN
  have B1 := hid b1
  have hM := hN.lt
  clear hN b1
  obtain ⟨M, hMM⟩ : ∃ M, w1.heap.size = M := ⟨_, rfl⟩
  have hM1 : w.heap.size < M := by omega
  go_wp2_with fail
  go_loopg [4, 16] n (fun r mvv iv wr => ∃ (j : Nat) (v : Value), r = n - j ∧ v = mvv ∧ iv = .int .i64 (j : Int) ∧ j ≤ n ∧ Hid (wr.ownsRow M 54 4 v (Vc.cutsL ts j).length (mv (Vc.cutsL ts j))) ∧ Hid (NumsIn wr w.heap.size ts n) ∧ Hid (Below w.heap.size w wr) ∧ M ≤ wr.heap.size)
  case atStart => exact ⟨0, _, rfl, rfl, rfl, by omega, hid ⟨by simp [Vc.cutsL, mv], .inl ⟨rfl, rfl⟩⟩, HN, B1, by omega⟩
  case round =>
    obtain ⟨j, v, rfl, rfl, rfl, hj, HO, HM, HB, hMr⟩ := hrel
    by_cases hlt : j < n
    · have l0 : (0 : Int) ≤ j := by omega
      have l1 : (j : Int) < n := by omega
      have l2 : IntKind.i64.wrap ((j : Int) + 1) = j + 1 := i64_in (by omega) (by omega)
      obtain ⟨b, off, rfl, hbl, hc⟩ := (TW.out.below HB.out).at' (by omega)
      have q1 := hc j hlt
      have hzj := HZ.out j hlt
      have hcl := Vc.cutsL_len (ts := ts) (fun i hi => HZ.out i (by omega)) j (by omega)
      obtain ⟨s, hs⟩ : ∃ s, at_ ts j = s := ⟨_, rfl⟩
      rw [hs] at q1 hzj
      have HS := hid hs
      clear hc hs
      obtain ⟨m, hm⟩ : ∃ m, s.size = m := ⟨_, rfl⟩
      rw [hm] at hzj
      go_wp2_with fail
      go_loopg [4, 7] m (fun r mvv iv wr2 => ∃ (k : Nat) (v2 : Value), r = m - k ∧ v2 = mvv ∧ iv = .int .i64 ((k : Int) + 1) ∧ k ≤ m ∧ (m = 0 ∧ k = 0 ∨ k + 1 ≤ m) ∧ Hid (wr2.ownsRow M 54 4 v2 (Vc.cutsL ts j ++ Vc.cutsTo ts j k).length (mv (Vc.cutsL ts j ++ Vc.cutsTo ts j k))) ∧ Hid (NumsIn wr2 w.heap.size ts n) ∧ Hid (Below w.heap.size w wr2) ∧ M ≤ wr2.heap.size)
      case atStart => exact ⟨0, v, rfl, rfl, rfl, by omega, by omega, by simpa [Vc.cutsTo] using HO, HM, HB, hMr⟩
      case round =>
        obtain ⟨k, v2, rfl, rfl, rfl, hk, hk2, HO2, HM2, HB2, hMr2⟩ := hrel
        have hct := Vc.cutsTo_len ts j k
        by_cases hlt2 : k + 1 < m
        · have g1 : (k : Int) + 1 < m := by omega
          have g0 : (0 : Int) ≤ (k : Int) + 1 := by omega
          have g2 : IntKind.i64.wrap ((k : Int) + 1 + 1) = k + 1 + 1 := i64_in (by omega) (by omega)
          have g3 : (k : Int) + 1 ≤ m := by omega
          obtain ⟨c1, t1, lk1, cs1⟩ := HM2.out.num hl (s.extract 0 (k + 1)) (by rw [ByteArray.size_extract]; unfold maxLen; omega)
          obtain ⟨c2, t2, lk2, cs2⟩ := HM2.out.num hl (s.extract (k + 1) m) (by rw [ByteArray.size_extract]; unfold maxLen; omega)
          have C1 := hid cs1
          have C2 := hid cs2
          clear cs1 cs2
          have hstep : (∃ l r : Nat, t1 = true ∧ t2 = true ∧ c1 = l ∧ c2 = r ∧ Vc.cutAt ts j (k + 1) = [((l : Int), (r : Int), (j : Int), (j : Int))]) ∨ ((t1 = false ∨ t2 = false) ∧ Vc.cutAt ts j (k + 1) = []) := by
            unfold Vc.cutAt
            rw [HS.out, hm]
            rcases C1.out with ⟨a1, l, a2, a3⟩ | ⟨a1, a2⟩
            · rcases C2.out with ⟨b1, r, b2, b3⟩ | ⟨b1, b2⟩
              · exact .inl ⟨l, r, a1, b1, a2, b2, by rw [a3, b3]; rfl⟩
              · exact .inr ⟨.inr b1, by rw [a3, b2]; rfl⟩
            · exact .inr ⟨.inl a1, by rw [a2]; cases Vc.num ts (s.extract (k + 1) m) <;> rfl⟩
          clear C1 C2
          rcases hstep with ⟨l, r, rfl, rfl, rfl, rfl, hcut⟩ | ⟨hf, hcut⟩
          · have HC := hid hcut
            clear hcut
            have hlen : (Vc.cutsL ts j ++ Vc.cutsTo ts j k).length ≤ 300000 := by rw [List.length_append]; omega
            obtain ⟨L, hL⟩ : ∃ L, (Vc.cutsL ts j ++ Vc.cutsTo ts j k).length = L := ⟨_, rfl⟩
            obtain ⟨X, hX⟩ : ∃ X, Vc.cutsL ts j ++ Vc.cutsTo ts j k = X := ⟨_, rfl⟩
            rw [hL] at HO2 hlen
            rw [hX] at HO2
            have HX := hid hX
            have HL := hid hL
            clear hX hL
            go_wp2_with (at_builtin; refine wpList_append_src rfl _ _ 23 rfl M 54 i0 (.agg #[.int .i64 0, .int .i64 0, .int .i64 0, .int .i64 0]) 4 32 Try.underlying23 hi hz0 hz1 hz2 rfl (by decide) _ L _ rfl (HO2.out.alloc _) (some ⟨wr.heap.size, 0, none⟩) 1 1 [.int .i64 (l : Int), .int .i64 (r : Int), .int .i64 (j : Int), .int .i64 (j : Int)] rfl (src_merge (l : Int) (r : Int) (j : Int) (j : Int) _) (by unfold maxLen; omega) (by omega) (by simp; omega) ?_; intro v3 w3 own gr loc; have O3 := hid own; have G3 := hid gr; clear own gr loc)
            have OB := hid (show ∀ q, v2.ownBlock = some q → M ≤ q from fun q hq => by
              obtain ⟨_, ho⟩ := HO2.out
              rcases ho with ⟨h1, _⟩ | ⟨g, cap, cur, h1, hb, _⟩
              · rw [h1] at hq; simp [Value.ownBlock] at hq
              · rw [h1] at hq; simp [Value.ownBlock] at hq; omega)
            go_roundg (m - (k + 1))
            case measure => omega
            case rel =>
              refine ⟨k + 1, v3, rfl, rfl, by go_num, by omega, by omega, hid ?_, hid ((HM2.out.alloc _).kept G3.out (fun h => by have := OB.out _ h.symm; omega)), hid ((HB2.out.alloc HB2.out.size _).grown G3.out (by have := HB2.out.size; simp; omega) (fun q hq => by have := OB.out q hq; omega)), by have := G3.out.size; simp at this; omega⟩
              have e1 : Vc.cutsL ts j ++ Vc.cutsTo ts j (k + 1) = X ++ [((l : Int), (r : Int), (j : Int), (j : Int))] := by rw [Vc.cutsTo, HC.out, ← HX.out, List.append_assoc]
              rw [e1, List.length_append, ← mv_snoc, ← HX.out, HL.out, HX.out]
              exact O3.out
          · have HC := hid hcut
            clear hcut
            have e1 : Vc.cutsL ts j ++ Vc.cutsTo ts j (k + 1) = Vc.cutsL ts j ++ Vc.cutsTo ts j k := by rw [Vc.cutsTo, HC.out, List.append_nil]
            have HE := hid e1
            clear e1
            cases t1
            · go_wp2_with fail
              go_roundg (m - (k + 1))
              case measure => omega
              case rel => exact ⟨k + 1, v2, rfl, rfl, by go_num, by omega, by omega, hid (by rw [HE.out]; exact HO2.out), HM2, HB2, hMr2⟩
            · have hf2 : t2 = false := by rcases hf with h | h; cases h; exact h
              subst hf2
              go_wp2_with fail
              go_roundg (m - (k + 1))
              case measure => omega
              case rel => exact ⟨k + 1, v2, rfl, rfl, by go_num, by omega, by omega, hid (by rw [HE.out]; exact HO2.out), HM2, HB2, hMr2⟩
        · have g1 : ¬ (k : Int) + 1 < m := by omega
          have e1 : Vc.cutsL ts (j + 1) = Vc.cutsL ts j ++ Vc.cutsTo ts j k := by
            have e2 : m - 1 = k := by omega
            rw [Vc.cutsL, HS.out, hm, e2]
          have HE := hid e1
          clear e1
          go_wp2_with fail
          go_roundg (n - (j + 1))
          case measure => omega
          case rel => exact ⟨j + 1, v2, rfl, rfl, by go_num, by omega, hid (by rw [HE.out]; exact HO2.out), HM2, HB2, hMr2⟩
    · obtain rfl : j = n := by omega
      have k1 : ¬ ((j : Int) < j) := by omega
      have hcl := Vc.cutsL_len (ts := ts) (fun i hi => HZ.out i (by omega)) j (by omega)
      obtain ⟨am, cm, rfl, _⟩ := Qw.ofOwn HO.out
      have HI := hid (hi_own HO.out)
      go_wp2_with fail
      refine (sortM_calls HO.out hMr (by omega)).mono ?_
      rintro e w2 ⟨⟨rfl, ms', hms, hq⟩, b2⟩
      have HMs := hid hms
      have HQ := hid hq
      have B2 := hid (HB.out.trans (b2.mono (by omega)))
      clear hms hq b2
      go_wp2_with fail
      go_ret
      exact ⟨⟨am, _, cm, ms', rfl, HI.out.mono (by omega), ⟨by rw [hl]; exact HMs.out.1, HMs.out.2⟩, HQ.out⟩, B2.out⟩
end Go.Proofs.Ytjpboackbjfenaa
