/-
  Walk of vocab.isMerged.
-/
import Derived.Test.YtfgbpjajkmfkoaaVcW4
import Derived.Test.YtfgbpjajkmfkoaaVcMk
namespace Go.Proofs.Ytfgbpjajkmfkoaa
open Go.RowKit
set_option linter.unusedVariables false

theorem Try.infoBl : (Try.prog.info? 4).map (fun i => (i.zero, i.size, i.bytes)) = some (some (.bool false), 1, 1) := by kernel_rfl

set_option maxRecDepth 100000 in
set_option maxHeartbeats 3200000 in
theorem isMerged_calls {w : World} {a am az : Option Addr} {n c nm cm ns cs : Nat} {ts : Vc.Toks} {ms : List Mg4} (V : Ts w a n c ts) (M : Qw w am nm cm ms) (hT : Vc.MayT ts) (hM : Vc.MayM ts ms) :
    Calls Try.prog 34 #[.agg #[.slice a n c, .slice am nm cm, .slice az ns cs]] w fun e w' => Says e (Vc.Made ts ms) ∧ Below w.heap.size w w' := by
  have hl := V.len
  have hlm := M.len
  have hn := hT.len
  have hm := hM.len
  have B0 := hid ((Below.refl w.heap.size w).alloc (Nat.le_refl _) (.cells #[.slice a n c, .slice am nm cm, .slice az ns cs] 26))
  have X0 := hid (Bx3.new w 26 (.slice a n c) (.slice am nm cm) (.slice az ns cs))
  have T0 := hid (V.below B0.out)
  have M0 := hid (M.below B0.out)
  have HM := hid hM
  have s0 : (w.alloc (.cells #[.slice a n c, .slice am nm cm, .slice az ns cs] 26)).heap.size = w.heap.size + 1 := by simp
  have MW := hid M
  have TW := hid V
  clear V M hT hM
  go_enter Try.func34, Try.ntmps34
  obtain ⟨i0, hi0, hz0, hz1, hz2⟩ := info_parts Try.infoBl
  go_wp2_with (refine wpList_make_vr (by rfl) _ _ 86 rfl (.bool false) 4 _ Try.underlying86 hi0 hz0 rfl hz1 (by omega) n (by omega) rfl rfl ?_; intro w1 R1 b1 z1; rw [s0] at R1 b1 z1; have X1 := hid (X0.out.below b1.out (by omega)); have B1 := hid (B0.out.trans (b1.out.mono (by omega))); clear b1 X0 B0; have x10 := X1.out.cell0; have x11 := X1.out.cell1)
  go_loopg [15] nm (fun r iv wr => ∃ (j : Nat) (g : Nat → Bool), r = nm - j ∧ iv = .int .i64 (j : Int) ∧ j ≤ nm ∧ Hid (Vr wr (w.heap.size + 1) n 4 (fun i => .bool (g i))) ∧ Hid (∀ i : Nat, g i = true ↔ ∃ k, k < j ∧ (mat ms k).2.2.1 = (i : Int)) ∧ Hid (Bx3 wr w.heap.size 26 (.slice a n c) (.slice am nm cm) (.slice az ns cs)) ∧ Hid (Below w.heap.size w wr))
  case atStart => exact ⟨0, fun _ => false, rfl, rfl, by omega, R1, hid (fun i => ⟨fun h => by simp at h, fun ⟨k, hk, _⟩ => by omega⟩), X1, B1⟩
  case round =>
    obtain ⟨j, g, rfl, rfl, hj, HR, HG, HX, HB⟩ := hrel
    by_cases hlt : j < nm
    · have k1 : (j : Int) < nm := by omega
      have k0 : (0 : Int) ≤ j := by omega
      have e2 : IntKind.i64.wrap ((j : Int) + 1) = j + 1 := i64_in (by omega) (by omega)
      obtain ⟨b, off, rfl, hbl, hc⟩ := (MW.out.below HB.out).at' (by omega)
      obtain ⟨p0, p1, p2, p3⟩ := hc j hlt
      obtain ⟨⟨x0, x1, x2, x3⟩, hx⟩ : ∃ x, mat ms j = x := ⟨_, rfl⟩
      have hok := HM.out.ok j (by omega)
      rw [hx] at p0 p1 p2 p3 hok
      obtain ⟨q, rfl⟩ : ∃ q : Nat, x2 = q := ⟨x2.toNat, by have := hok.2.2.1.1; simp at this ⊢; omega⟩
      have hq : q < n := by have := hok.2.2.1.2.1; simp at this; omega
      have q0 : (0 : Int) ≤ q := by omega
      have q1 : (q : Int) < n := by omega
      have cq := HR.out.cell hq
      have fq := HR.out.fr q
      have hlr := HR.out.lt
      have HQ := hid hx
      clear hc hx hok
      go_wp2_with fail
      go_roundg (nm - (j + 1))
      case measure => omega
      case rel =>
        refine ⟨j + 1, fun i => if i = q then true else g i, rfl, by go_num, by omega, hid (((HR.out.set q (.bool true)).alloc _).congr (fun i hi => ?_)), hid (fun i => ?_), hid ((HX.out.other (by omega) _).alloc _), hid ((HB.out.setCell (by simp) _).alloc (by have := HB.out.size; simp; omega) _)⟩
        · simp only [upd]
          split <;> rfl
        · show (if i = q then true else g i) = true ↔ _
          constructor
          · intro h
            by_cases hi : i = q
            · exact ⟨j, by omega, by rw [HQ.out, hi]⟩
            · rw [if_neg hi] at h
              obtain ⟨k, hk, he⟩ := (HG.out i).1 h
              exact ⟨k, by omega, he⟩
          · rintro ⟨k, hk, he⟩
            by_cases hi : i = q
            · rw [if_pos hi]
            · rw [if_neg hi]
              by_cases hkj : k < j
              · exact (HG.out i).2 ⟨k, hkj, he⟩
              · obtain rfl : k = j := by omega
                rw [HQ.out] at he
                exact absurd (Int.ofNat.inj he.symm) hi
    · obtain rfl : j = nm := by omega
      have k1 : ¬ ((j : Int) < j) := by omega
      have y0 := HX.out.cell0
      go_wp2_with fail
      go_loopg [27] n (fun r iv w2 => ∃ i : Nat, r = n - i ∧ iv = .int .i64 (i : Int) ∧ i ≤ n ∧ w2 = wr ∧ Hid (∀ k, k < i → (at_ ts k).size < 2 ∨ ∃ u, u < ms.length ∧ (mat ms u).2.2.1 = (k : Int)))
      case atStart => exact ⟨0, rfl, rfl, by omega, rfl, hid (fun k hk => by omega)⟩
      case round =>
        obtain ⟨i, rfl, rfl, hi, rfl, HA⟩ := hrel
        by_cases hlt : i < n
        · have i1 : (i : Int) < n := by omega
          have i0' : (0 : Int) ≤ i := by omega
          have e2 : IntKind.i64.wrap ((i : Int) + 1) = i + 1 := i64_in (by omega) (by omega)
          obtain ⟨b, off, rfl, hbl, hc⟩ := (TW.out.below HB.out).at' (by omega)
          have q1 := hc i hlt
          obtain ⟨t, ht⟩ : ∃ t, at_ ts i = t := ⟨_, rfl⟩
          rw [ht] at q1
          have HT := hid ht
          clear hc ht
          have cq := HR.out.cell hlt
          by_cases hz : (1 : Int) < (t.size : Int)
          · obtain ⟨gb, hgb⟩ : ∃ x, g i = x := ⟨_, rfl⟩
            have HGi := hid (HG.out i)
            rw [hgb] at cq HGi
            clear hgb
            have hz' : 1 < t.size := by omega
            cases gb
            · have HN := hid (show ¬ Vc.Made ts ms from fun h => by
                rcases h i (by omega) with h1 | ⟨k, hk, he⟩
                · rw [HT.out] at h1; omega
                · exact absurd (HGi.out.2 ⟨k, by omega, he⟩) (by decide))
              go_wp2_with fail
              go_ret
              exact ⟨Says.no HN.out, HB.out⟩
            · go_wp2_with fail
              go_roundg (n - (i + 1))
              case measure => omega
              case rel =>
                refine ⟨i + 1, rfl, by go_num, by omega, rfl, hid (fun k hk => ?_)⟩
                by_cases h : k < i
                · exact HA.out k h
                · obtain rfl : k = i := by omega
                  obtain ⟨u, hu, he⟩ := HGi.out.1 (by simp)
                  exact Or.inr ⟨u, by omega, he⟩
          · have hz' : t.size ≤ 1 := by omega
            have d1 : decide ((1 : Int) < (t.size : Int)) = false := decide_eq_false hz
            go_wp2_with fail
            go_roundg (n - (i + 1))
            case measure => omega
            case rel =>
              refine ⟨i + 1, rfl, by go_num, by omega, rfl, hid (fun k hk => ?_)⟩
              by_cases h : k < i
              · exact HA.out k h
              · obtain rfl : k = i := by omega
                exact Or.inl (by rw [HT.out]; omega)
        · have k2 : ¬ ((i : Int) < n) := by omega
          have HN := hid (show Vc.Made ts ms from fun k hk => HA.out k (by omega))
          go_wp2_with fail
          go_ret
          exact ⟨Says.yes HN.out, HB.out⟩
end Go.Proofs.Ytfgbpjajkmfkoaa
