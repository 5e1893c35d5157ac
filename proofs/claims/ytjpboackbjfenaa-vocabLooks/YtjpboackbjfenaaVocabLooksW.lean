/-
  The walk of the law VocabLooks.
-/
import Derived.Test.YtjpboackbjfenaaVocabMayW
namespace Go.Proofs.Ytjpboackbjfenaa
open Go.RowKit Go.Maps
set_option linter.unusedVariables false

theorem first_to (ts : Vc.Toks) (s : ByteArray) : ∀ n, (∃ j, j < n ∧ at_ ts j = s ∧ ∀ i, i < j → at_ ts i ≠ s) ∨ ∀ i, i < n → at_ ts i ≠ s
  | 0 => .inr (fun i hi => by omega)
  | n + 1 => by
    rcases first_to ts s n with ⟨j, hj, h⟩ | h
    · exact .inl ⟨j, by omega, h⟩
    · by_cases hn : at_ ts n = s
      · exact .inl ⟨n, by omega, hn, h⟩
      · refine .inr (fun i hi => ?_)
        by_cases hin : i = n
        · rw [hin]; exact hn
        · exact h i (by omega)
theorem ofIs_ex (ts : Vc.Toks) (s : ByteArray) : ∃ r, Vc.OfIs ts s r := by
  by_cases hz : s.size = 0
  · exact ⟨-1, .inl ⟨hz, rfl⟩⟩
  · rcases first_to ts s ts.length with ⟨j, hj, h1, h2⟩ | h
    · exact ⟨j, .inr ⟨hz, .inl ⟨j, rfl, hj, h1, h2⟩⟩⟩
    · exact ⟨-1, .inr ⟨hz, .inr ⟨rfl, h⟩⟩⟩
theorem ofIs_one {ts : Vc.Toks} {s : ByteArray} {r r' : Int} (h : Vc.OfIs ts s r) (k : Vc.OfIs ts s r') : r = r' := by
  rcases h with ⟨h0, rfl⟩ | ⟨h0, h⟩
  · rcases k with ⟨_, rfl⟩ | ⟨k0, _⟩
    · rfl
    · exact absurd h0 k0
  · rcases k with ⟨k0, _⟩ | ⟨_, k⟩
    · exact absurd k0 h0
    · rcases h with ⟨j, rfl, h1, h2, h3⟩ | ⟨rfl, h1⟩
      · rcases k with ⟨i, rfl, k1, k2, k3⟩ | ⟨rfl, k1⟩
        · rcases Nat.lt_trichotomy i j with q | q | q
          · exact absurd k2 (h3 i q)
          · rw [q]
          · exact absurd h2 (k3 j q)
        · exact absurd h2 (k1 j h1)
      · rcases k with ⟨i, rfl, k1, k2, k3⟩ | ⟨rfl, k1⟩
        · exact absurd k2 (h1 i k1)
        · rfl
theorem idIs_one {sp : Vc.Sps} {s : ByteArray} {r r' : Int} (h : Vc.IdIs sp s r) (k : Vc.IdIs sp s r') : r = r' := by
  rcases h with ⟨j, h1, h2, h3, rfl⟩ | ⟨h1, rfl⟩
  · rcases k with ⟨i, k1, k2, k3, rfl⟩ | ⟨k1, rfl⟩
    · rcases Nat.lt_trichotomy i j with q | q | q
      · exact absurd k2 (h3 i q)
      · rw [q]
      · exact absurd h2 (k3 j q)
    · exact absurd h2 (k1 j h1)
  · rcases k with ⟨i, k1, k2, k3, rfl⟩ | ⟨k1, rfl⟩
    · exact absurd k2 (h1 i k1)
    · rfl
/-- The name, and whether there is one, of the first special of such a number from a place on. -/
def Vc.NmTo (sp : Vc.Sps) (k : Nat) (x : Int) (s : ByteArray) (b : Bool) : Prop :=
  (∃ j, k ≤ j ∧ j < sp.length ∧ kat sp j = x ∧ (∀ i, k ≤ i → i < j → kat sp i ≠ x) ∧ s = tat sp j ∧ b = true) ∨ ((∀ i, k ≤ i → i < sp.length → kat sp i ≠ x) ∧ s = ⟨#[]⟩ ∧ b = false)
/-- The number of the first special of such a name from a place on. -/
def Vc.IdTo (sp : Vc.Sps) (k : Nat) (s : ByteArray) (r : Int) : Prop :=
  (∃ j, k ≤ j ∧ j < sp.length ∧ tat sp j = s ∧ (∀ i, k ≤ i → i < j → tat sp i ≠ s) ∧ r = kat sp j) ∨ ((∀ i, k ≤ i → i < sp.length → tat sp i ≠ s) ∧ r = -1)
theorem nmTo_hit {sp : Vc.Sps} {k : Nat} {x : Int} (hk : k < sp.length) (h : kat sp k = x) : Vc.NmTo sp k x (tat sp k) true :=
  .inl ⟨k, Nat.le_refl _, hk, h, fun i h1 h2 => by omega, rfl, rfl⟩
theorem nmTo_miss {sp : Vc.Sps} {k : Nat} {x : Int} {s : ByteArray} {b : Bool} (hm : kat sp k ≠ x) (h : Vc.NmTo sp (k + 1) x s b) : Vc.NmTo sp k x s b := by
  rcases h with ⟨j, h1, h2, h3, h4, h5⟩ | ⟨h1, h2⟩
  · refine .inl ⟨j, by omega, h2, h3, fun i hi hj => ?_, h5⟩
    by_cases hik : i = k
    · rw [hik]; exact hm
    · exact h4 i (by omega) hj
  · refine .inr ⟨fun i hi hj => ?_, h2⟩
    by_cases hik : i = k
    · rw [hik]; exact hm
    · exact h1 i (by omega) hj
theorem idTo_hit {sp : Vc.Sps} {k : Nat} {s : ByteArray} (hk : k < sp.length) (h : tat sp k = s) : Vc.IdTo sp k s (kat sp k) :=
  .inl ⟨k, Nat.le_refl _, hk, h, fun i h1 h2 => by omega, rfl⟩
theorem idTo_miss {sp : Vc.Sps} {k : Nat} {s : ByteArray} {r : Int} (hm : tat sp k ≠ s) (h : Vc.IdTo sp (k + 1) s r) : Vc.IdTo sp k s r := by
  rcases h with ⟨j, h1, h2, h3, h4, h5⟩ | ⟨h1, h2⟩
  · refine .inl ⟨j, by omega, h2, h3, fun i hi hj => ?_, h5⟩
    by_cases hik : i = k
    · rw [hik]; exact hm
    · exact h4 i (by omega) hj
  · refine .inr ⟨fun i hi hj => ?_, h2⟩
    by_cases hik : i = k
    · rw [hik]; exact hm
    · exact h1 i (by omega) hj
theorem nmOut_to {sp : Vc.Sps} {x : Int} {e : Ending} (h : NmOut sp x e) : ∃ s b, e = .returned (.tuple #[.string s, .bool b]) ∧ Vc.NmTo sp 0 x s b := by
  rcases h with ⟨j, h1, h2, h3, rfl⟩ | ⟨h1, rfl⟩
  · exact ⟨_, _, rfl, .inl ⟨j, Nat.zero_le _, h1, h2, fun i _ hi => h3 i hi, rfl, rfl⟩⟩
  · exact ⟨_, _, rfl, .inr ⟨fun i _ hi => h1 i hi, rfl, rfl⟩⟩
theorem nmTo_one {sp : Vc.Sps} {k : Nat} {x : Int} {s s' : ByteArray} {b b' : Bool} (h : Vc.NmTo sp k x s b) (g : Vc.NmTo sp k x s' b') : s = s' ∧ b = b' := by
  rcases h with ⟨j, h1, h2, h3, h4, rfl, rfl⟩ | ⟨h1, rfl, rfl⟩
  · rcases g with ⟨i, g1, g2, g3, g4, rfl, rfl⟩ | ⟨g1, _⟩
    · rcases Nat.lt_trichotomy i j with q | q | q
      · exact absurd g3 (h4 i g1 q)
      · rw [q]; exact ⟨rfl, rfl⟩
      · exact absurd h3 (g4 j h1 q)
    · exact absurd h3 (g1 j h1 h2)
  · rcases g with ⟨i, g1, g2, g3, _⟩ | ⟨_, rfl, rfl⟩
    · exact absurd g3 (h1 i g1 g2)
    · exact ⟨rfl, rfl⟩
theorem idTo_is {sp : Vc.Sps} {s : ByteArray} {r : Int} (h : Vc.IdTo sp 0 s r) : Vc.IdIs sp s r := by
  rcases h with ⟨j, _, h2, h3, h4, h5⟩ | ⟨h1, h2⟩
  · exact .inl ⟨j, h2, h3, fun i hi => h4 i (Nat.zero_le _) hi, h5⟩
  · exact .inr ⟨fun i hi => h1 i (Nat.zero_le _) hi, h2⟩
theorem nm_same {sp : Vc.Sps} {x : Int} {s : ByteArray} {b : Bool} {e : Ending} (h : NmOut sp x e) (k : Vc.NmTo sp 0 x s b) : e = .returned (.tuple #[.string s, .bool b]) := by
  rcases h with ⟨j, h1, h2, h3, rfl⟩ | ⟨h1, rfl⟩
  · rcases k with ⟨i, _, k1, k2, k3, rfl, rfl⟩ | ⟨k1, _⟩
    · rcases Nat.lt_trichotomy i j with q | q | q
      · exact absurd k2 (h3 i q)
      · rw [q]
      · exact absurd h2 (k3 j (Nat.zero_le _) q)
    · exact absurd h2 (k1 j (Nat.zero_le _) h1)
  · rcases k with ⟨i, _, k1, k2, _⟩ | ⟨_, rfl, rfl⟩
    · exact absurd k2 (h1 i k1)
    · rfl

set_option maxRecDepth 100000 in
set_option maxHeartbeats 6400000 in
theorem vocabLooks_calls {w : World} {a am az : Option Addr} {n c nm cm ns cs : Nat} {ts : Vc.Toks} {ms : List Mg4} {sp : Vc.Sps} (V : Vo w a n c am nm cm az ns cs ts ms sp) (x : Int) (tk na : ByteArray) :
    Calls Try.prog 6 #[.agg #[.slice a n c, .slice am nm cm, .slice az ns cs], .int .i64 x, .string tk, .string na] w fun e w' => e = .returned (.bool true) ∧ Below w.heap.size w w' := by
  have hl := V.T.len
  have hls := V.S.len
  have hx0 : n ≤ 9223372036854775807 := by have := V.T.le; have := V.T.mx; unfold maxLen at this; omega
  have hxs : ns ≤ 9223372036854775807 := by have := V.S.le; have := V.S.mx; unfold maxLen at this; omega
  have B0 := hid ((Below.refl w.heap.size w).alloc (Nat.le_refl _) (.cells #[.slice a n c, .slice am nm cm, .slice az ns cs] 26))
  have X0 := hid (Bx3.new w 26 (.slice a n c) (.slice am nm cm) (.slice az ns cs))
  have V0 := hid (V.below B0.out)
  have VW := hid V
  clear V
  go_enter Try.func6, Try.ntmps6
  go_wp2_with fail
  refine (rgreat_calls V0.out).mono ?_
  rintro e w1 ⟨⟨g, rfl, hg⟩, b1⟩
  have X1 := hid (X0.out.below b1 X0.out.lt)
  have V1 := hid (V0.out.below b1)
  have B1 := hid (B0.out.trans (b1.mono B0.out.size))
  have HG := hid hg
  clear hg b1 X0 V0 B0
  cases g
  rotate_left
  · go_wp2_with fail
    refine (fixed_calls _).mono ?_
    rintro e w2 ⟨rfl, b2⟩
    have B2 := hid (B1.out.trans (b2.mono B1.out.size))
    clear b2
    go_wp2_with fail
    go_ret
    exact ⟨rfl, B2.out⟩
  have HSm := hid (show Vc.Small ts ms sp from Classical.byContradiction fun h => absurd (HG.out.2 h) (by decide))
  clear HG
  by_cases g1 : (80 : Int) < tk.size
  · go_wp2_with fail
    refine (fixed_calls _).mono ?_
    rintro e w2 ⟨rfl, b2⟩
    have B2 := hid (B1.out.trans (b2.mono B1.out.size))
    clear b2
    go_wp2_with fail
    go_ret
    exact ⟨rfl, B2.out⟩
  have d1 : decide ((80 : Int) < tk.size) = false := decide_eq_false g1
  by_cases g2 : (40 : Int) < na.size
  · go_wp2_with fail
    refine (fixed_calls _).mono ?_
    rintro e w2 ⟨rfl, b2⟩
    have B2 := hid (B1.out.trans (b2.mono B1.out.size))
    clear b2
    go_wp2_with fail
    go_ret
    exact ⟨rfl, B2.out⟩
  have d2 : decide ((40 : Int) < na.size) = false := decide_eq_false g2
  have c0 := X1.out.cell0
  have c1 := X1.out.cell1
  have c2 := X1.out.cell2
  have hns : ns ≤ 20 := by have := HSm.out.s; omega
  go_wp2_with fail
  refine (bytes_calls V1.out.T x).mono ?_
  rintro e w2 ⟨E2, b2⟩
  have X2 := hid (X1.out.below b2 X1.out.lt)
  have V2 := hid (V1.out.below b2)
  have B2 := hid (B1.out.trans (b2.mono B1.out.size))
  clear b2 X1 V1 B1 c0 c1 c2
  have c0 := X2.out.cell0
  have c1 := X2.out.cell1
  have c2 := X2.out.cell2
  have X3 := hid (fun d => X2.out.below (below_drewN (Below.refl _ _) d) X2.out.lt)
  have V3 := hid (fun d => V2.out.below (below_drewN (Below.refl _ _) d))
  have B3 := hid (fun d => below_drewN B2.out d)
  have ways : (∃ j : Nat, x = j ∧ j < n ∧ (at_ ts j).size ≠ 0 ∧ e = .returned (.tuple #[.string (at_ ts j), .bool true])) ∨ (∃ j : Nat, x = j ∧ j < n ∧ (at_ ts j) = ⟨#[]⟩ ∧ e = .returned (.tuple #[.string ⟨#[]⟩, .bool false])) ∨ (¬ (0 ≤ x ∧ x < n) ∧ e = .returned (.tuple #[.string ⟨#[]⟩, .bool false])) := by
    rcases E2 with ⟨h, rfl⟩ | ⟨h, rfl⟩
    · refine .inl ⟨x.toNat, by have := h.1; omega, by have := h.2.1; have := h.1; omega, h.2.2, rfl⟩
    · by_cases hr : 0 ≤ x ∧ x < n
      · refine .inr (.inl ⟨x.toNat, by omega, by omega, ?_, rfl⟩)
        by_cases hz : (at_ ts x.toNat).size = 0
        · exact ba_nil hz
        · exact absurd ⟨hr.1, by omega, hz⟩ h
      · exact .inr (.inr ⟨hr, rfl⟩)
  clear E2
  have es : ((⟨#[]⟩ : ByteArray).toList == (⟨#[]⟩ : ByteArray).toList) = true := beq_self_eq_true _
  obtain ⟨S, Bo, hcase⟩ : ∃ (S : ByteArray) (Bo : Bool), e = .returned (.tuple #[.string S, .bool Bo]) ∧ ((∃ j : Nat, x = j ∧ j < n ∧ at_ ts j = S ∧ (Bo = true ↔ S.size ≠ 0)) ∨ (¬ (0 ≤ x ∧ x < n) ∧ S = ⟨#[]⟩ ∧ Bo = false)) := by
    rcases ways with ⟨j, h1, h2, h3, h4⟩ | ⟨j, h1, h2, h3, h4⟩ | ⟨h1, h2⟩
    · exact ⟨_, _, h4, .inl ⟨j, h1, h2, rfl, by simp [h3]⟩⟩
    · exact ⟨_, _, h4, .inl ⟨j, h1, h2, h3, ⟨(fun h => by cases h), fun h => absurd rfl h⟩⟩⟩
    · exact ⟨_, _, h2, .inr ⟨h1, rfl, rfl⟩⟩
  obtain ⟨rfl, hcase⟩ := hcase
  clear ways es
  have eS : (S.toList == S.toList) = true := beq_self_eq_true _
  rcases hcase with ⟨j, rfl, hj, hjS, hB⟩ | ⟨hr, hS, hB⟩
  · have j0 : (0 : Int) ≤ j := by omega
    have j1 : (j : Int) < n := by omega
    obtain ⟨b, off, rfl, hbl, hc⟩ := V2.out.T.at' (by omega)
    have q1 := hc j hj
    rw [hjS] at q1
    have HjS := hid hjS
    clear hc hjS
    have hSB : (S.toList.isEmpty = !Bo) ∧ ((S.toList == ([] : List UInt8)) = !Bo) ∧ (Bo = true → ¬ S.toList = []) ∧ (Bo = false → S.toList = []) := by
      by_cases hz : S.size = 0
      · have : Bo = false := by
          cases Bo
          · rfl
          · exact absurd hz (hB.1 rfl)
        subst this
        exact ⟨by rw [(ba_empty hz).1]; rfl, by rw [(ba_empty hz).2]; rfl, fun h => by simp at h, fun _ => (ba_empty hz).2⟩
      · have : Bo = true := hB.2 hz
        subst this
        exact ⟨by rw [(ba_full hz).1]; rfl, by simpa using (ba_full hz).2, fun _ => (ba_full hz).2, fun h => by simp at h⟩
    obtain ⟨s1, s2, s3, s4⟩ := hSB
    have HBo := hid hB
    clear hB
    cases Bo
    · have s5 := s4 rfl
      simp only [Bool.not_false] at s1 s2
      clear s3 s4
      go_wp2_with fail
      go_quiet (fail)
      have Xq := hid (X3.out nq)
      have Vq := hid (V3.out nq)
      have Bq := hid (B3.out nq)
      obtain ⟨w3, hw3⟩ : ∃ w3, w2.drewN nq = w3 := ⟨_, rfl⟩
      rw [hw3] at Xq Vq Bq ⊢
      clear hw3 X3 V3 B3 X2 V2 B2 c0 c1 c2 q1 s1 s2 s5
      have xq0 := Xq.out.cell0
      have xq1 := Xq.out.cell1
      have xq2 := Xq.out.cell2
      go_wp2_with fail
      refine (name_calls Vq.out.S _).mono ?_
      rintro e w4 ⟨E4, b4⟩
      have X4 := hid (Xq.out.below b4 Xq.out.lt)
      have V4 := hid (Vq.out.below b4)
      have B4 := hid (Bq.out.trans (b4.mono Bq.out.size))
      clear b4 Xq Vq Bq
      obtain ⟨N, C, rfl, hN⟩ := nmOut_to E4
      have HNm := hid hN
      clear E4 hN
      have y0 := X4.out.cell0
      have y1 := X4.out.cell1
      have y2 := X4.out.cell2
      have ew : IntKind.i64.wrap ((ns : Int) - 1) = ns - 1 := i64_in (by omega) (by omega)
      go_wp2_with fail
      go_loopg [15, 16, 17, 18] (ns + 1) (fun r nv fv cv iv wr => ∃ (k : Nat) (z : Int) (s : ByteArray) (fd : Int) (b : Bool), r = k + 1 ∧ nv = .string s ∧ fv = .int .i64 fd ∧ cv = .bool b ∧ iv = .int .i64 z ∧ z + 1 = k ∧ k ≤ ns ∧ Hid (Vc.NmTo sp k (j : Int) s b) ∧ Hid (Vc.IdTo sp k na fd) ∧ w4 = wr)
      case atStart => exact ⟨ns, _, _, _, _, rfl, rfl, rfl, rfl, rfl, by omega, by omega, hid (.inr ⟨fun i h1 h2 => by omega, rfl, rfl⟩), hid (.inr ⟨fun i h1 h2 => by omega, rfl⟩), rfl⟩
      case round =>
        obtain ⟨k, z, s, fd, b, rfl, rfl, rfl, rfl, rfl, hzk, hk, HNt, HIt, rfl⟩ := hrel
        by_cases hz0 : 0 ≤ z
        · obtain ⟨m, rfl⟩ : ∃ m : Nat, z = m := ⟨z.toNat, by omega⟩
          obtain rfl : k = m + 1 := by omega
          have m1 : (m : Int) < ns := by omega
          have m2 : IntKind.i64.wrap ((m : Int) - 1) = m - 1 := i64_in (by omega) (by omega)
          obtain ⟨b2, off2, rfl, hbl2, hc⟩ := V4.out.S.at' (by omega)
          obtain ⟨p0, p1⟩ := hc m (by omega)
          obtain ⟨sm, hsm⟩ : ∃ x, tat sp m = x := ⟨_, rfl⟩
          obtain ⟨xm, hxm⟩ : ∃ x, kat sp m = x := ⟨_, rfl⟩
          rw [hsm] at p0
          rw [hxm] at p1
          have HSm2 := hid hsm
          have HXm := hid hxm
          clear hc hsm hxm hzk
          have hnm : ∃ s' b', Vc.NmTo sp m (j : Int) s' b' ∧ ((xm = (j : Int) ∧ s' = sm ∧ b' = true) ∨ ((xm == (j : Int)) = false ∧ s' = s ∧ b' = b)) := by
            by_cases h : xm = (j : Int)
            · exact ⟨_, _, nmTo_hit (by omega) (by rw [HXm.out]; exact h), .inl ⟨h, HSm2.out, rfl⟩⟩
            · exact ⟨_, _, nmTo_miss (by rw [HXm.out]; exact h) HNt.out, .inr ⟨by simpa using h, rfl, rfl⟩⟩
          have hid' : ∃ f', Vc.IdTo sp m na f' ∧ ((sm = na ∧ f' = xm) ∨ (((sm.toList == na.toList) = false ∧ ¬ sm.toList = na.toList) ∧ f' = fd)) := by
            by_cases h : sm = na
            · exact ⟨_, idTo_hit (by omega) (by rw [HSm2.out]; exact h), .inl ⟨h, HXm.out⟩⟩
            · have h2 : ¬ sm.toList = na.toList := fun e => h (ba_eq e)
              exact ⟨_, idTo_miss (by rw [HSm2.out]; exact h) HIt.out, .inr ⟨⟨beq_eq_false_iff_ne.mpr h2, h2⟩, rfl⟩⟩
          obtain ⟨s', b', hnt, hnc⟩ := hnm
          obtain ⟨f', hit, hic⟩ := hid'
          have HNt2 := hid hnt
          have HIt2 := hid hit
          clear hnt hit HNt HIt HSm2 HXm
          rcases hnc with ⟨hq, rfl, rfl⟩ | ⟨dq, rfl, rfl⟩
          · rcases hic with ⟨rfl, rfl⟩ | ⟨⟨dn, dn2⟩, rfl⟩
            · have ss : (s'.toList == s'.toList) = true := beq_self_eq_true _
              subst hq
              go_wp2_with fail
              go_roundg (m + 1)
              case measure => omega
              case rel => exact ⟨m, _, _, _, _, rfl, rfl, rfl, rfl, rfl, by omega, by omega, HNt2, HIt2, rfl⟩
            · subst hq
              go_wp2_with fail
              go_roundg (m + 1)
              case measure => omega
              case rel => exact ⟨m, _, _, _, _, rfl, rfl, rfl, rfl, rfl, by omega, by omega, HNt2, HIt2, rfl⟩
          · rcases hic with ⟨rfl, rfl⟩ | ⟨⟨dn, dn2⟩, rfl⟩
            · go_wp2_with fail
              go_roundg (m + 1)
              case measure => omega
              case rel => exact ⟨m, _, _, _, _, rfl, rfl, rfl, rfl, rfl, by omega, by omega, HNt2, HIt2, rfl⟩
            · go_wp2_with fail
              go_roundg (m + 1)
              case measure => omega
              case rel => exact ⟨m, _, _, _, _, rfl, rfl, rfl, rfl, rfl, by omega, by omega, HNt2, HIt2, rfl⟩
        · obtain rfl : k = 0 := by omega
          have dz : decide ((0 : Int) ≤ z) = false := decide_eq_false hz0
          obtain ⟨rfl, rfl⟩ := nmTo_one HNm.out HNt.out
          have eN : (N.toList == N.toList) = true := beq_self_eq_true _
          have HId := hid (idTo_is HIt.out)
          obtain ⟨r0, hr0⟩ := ofIs_ex ts tk
          have k0 := fun d os => cell_regrown X4.out.cell0 d os
          have k1 := fun d os => cell_regrown X4.out.cell1 d os
          have k2 := fun d os => cell_regrown X4.out.cell2 d os
          have cF : ∀ d os, Calls Try.prog 10 #[] (Sort.grow (redrawn w4 d) os) fun e w'' => e = .returned (.bool true) ∧ ∃ p : Regrown, w'' = Sort.grow (redrawn w4 p.d) p.os := fun d os => Calls.regrown_of (fixed_calls _)
          have cO := fun d os => Calls.regrown_of ((of_calls (am := am) (az := az) (nm := nm) (cm := cm) (ns := ns) (cs := cs) (V4.out.T.below (below_regrown w4 d os)) tk).mono fun e w' ⟨⟨r, h1, h2⟩, h3⟩ => (show e = .returned (.int .i64 r0) ∧ _ from ⟨by rw [h1, ofIs_one h2 hr0], h3⟩))
          have cR := fun d os => Calls.regrown_of ((rof_calls (V4.out.T.below (below_regrown w4 d os)) tk).mono fun e w' ⟨⟨r, h1, h2⟩, h3⟩ => (show e = .returned (.int .i64 r0) ∧ Below (Sort.grow (redrawn w4 d) os).heap.size (Sort.grow (redrawn w4 d) os) w' from ⟨by rw [h1, ofIs_one h2 hr0], by rw [h3]; exact Below.refl _ _⟩))
          have cI := fun d os => Calls.regrown_of ((id_calls (a := some ⟨b, off, none⟩) (am := am) (n := n) (c := c) (nm := nm) (cm := cm) (V4.out.S.below (below_regrown w4 d os)) na).mono fun e w' ⟨⟨r, h1, h2⟩, h3⟩ => (show e = .returned (.int .i64 fd) ∧ _ from ⟨by rw [h1, idIs_one h2 HId.out], h3⟩))
          clear hr0 HId HNt HIt HNm V4 X4
          go_wp2_with fail
          refine wp_region_quiet_below (by kernel_rfl) (by kernel_rfl) ?_
          repeat (any_goals (first | go_big_quiet_step (first | exact cF _ _ | exact cO _ _ | exact cR _ _ | exact cI _ _) | quiet_step (first | exact cF _ _ | exact cO _ _ | exact cR _ _ | exact cI _ _)))
          refine wpQuiet_nil ?_
          intro _ hw'
          obtain ⟨⟨dq, osq⟩, hw''⟩ := hw'
          subst hw''
          go_wp2_with fail
          go_ret
          exact ⟨rfl, B4.out.trans ((below_regrown _ dq osq).mono B4.out.size)⟩
    · have s5 := s3 rfl
      simp only [Bool.not_true] at s1 s2
      clear s3 s4
      go_wp2_with fail
      go_quiet (fail)
      have Xq := hid (X3.out nq)
      have Vq := hid (V3.out nq)
      have Bq := hid (B3.out nq)
      obtain ⟨w3, hw3⟩ : ∃ w3, w2.drewN nq = w3 := ⟨_, rfl⟩
      rw [hw3] at Xq Vq Bq ⊢
      clear hw3 X3 V3 B3 X2 V2 B2 c0 c1 c2 q1 s1 s2 s5
      have xq0 := Xq.out.cell0
      have xq1 := Xq.out.cell1
      have xq2 := Xq.out.cell2
      go_wp2_with fail
      refine (name_calls Vq.out.S _).mono ?_
      rintro e w4 ⟨E4, b4⟩
      have X4 := hid (Xq.out.below b4 Xq.out.lt)
      have V4 := hid (Vq.out.below b4)
      have B4 := hid (Bq.out.trans (b4.mono Bq.out.size))
      clear b4 Xq Vq Bq
      obtain ⟨N, C, rfl, hN⟩ := nmOut_to E4
      have HNm := hid hN
      clear E4 hN
      have y0 := X4.out.cell0
      have y1 := X4.out.cell1
      have y2 := X4.out.cell2
      have ew : IntKind.i64.wrap ((ns : Int) - 1) = ns - 1 := i64_in (by omega) (by omega)
      go_wp2_with fail
      go_loopg [15, 16, 17, 18] (ns + 1) (fun r nv fv cv iv wr => ∃ (k : Nat) (z : Int) (s : ByteArray) (fd : Int) (b : Bool), r = k + 1 ∧ nv = .string s ∧ fv = .int .i64 fd ∧ cv = .bool b ∧ iv = .int .i64 z ∧ z + 1 = k ∧ k ≤ ns ∧ Hid (Vc.NmTo sp k (j : Int) s b) ∧ Hid (Vc.IdTo sp k na fd) ∧ w4 = wr)
      case atStart => exact ⟨ns, _, _, _, _, rfl, rfl, rfl, rfl, rfl, by omega, by omega, hid (.inr ⟨fun i h1 h2 => by omega, rfl, rfl⟩), hid (.inr ⟨fun i h1 h2 => by omega, rfl⟩), rfl⟩
      case round =>
        obtain ⟨k, z, s, fd, b, rfl, rfl, rfl, rfl, rfl, hzk, hk, HNt, HIt, rfl⟩ := hrel
        by_cases hz0 : 0 ≤ z
        · obtain ⟨m, rfl⟩ : ∃ m : Nat, z = m := ⟨z.toNat, by omega⟩
          obtain rfl : k = m + 1 := by omega
          have m1 : (m : Int) < ns := by omega
          have m2 : IntKind.i64.wrap ((m : Int) - 1) = m - 1 := i64_in (by omega) (by omega)
          obtain ⟨b2, off2, rfl, hbl2, hc⟩ := V4.out.S.at' (by omega)
          obtain ⟨p0, p1⟩ := hc m (by omega)
          obtain ⟨sm, hsm⟩ : ∃ x, tat sp m = x := ⟨_, rfl⟩
          obtain ⟨xm, hxm⟩ : ∃ x, kat sp m = x := ⟨_, rfl⟩
          rw [hsm] at p0
          rw [hxm] at p1
          have HSm2 := hid hsm
          have HXm := hid hxm
          clear hc hsm hxm hzk
          have hnm : ∃ s' b', Vc.NmTo sp m (j : Int) s' b' ∧ ((xm = (j : Int) ∧ s' = sm ∧ b' = true) ∨ ((xm == (j : Int)) = false ∧ s' = s ∧ b' = b)) := by
            by_cases h : xm = (j : Int)
            · exact ⟨_, _, nmTo_hit (by omega) (by rw [HXm.out]; exact h), .inl ⟨h, HSm2.out, rfl⟩⟩
            · exact ⟨_, _, nmTo_miss (by rw [HXm.out]; exact h) HNt.out, .inr ⟨by simpa using h, rfl, rfl⟩⟩
          have hid' : ∃ f', Vc.IdTo sp m na f' ∧ ((sm = na ∧ f' = xm) ∨ (((sm.toList == na.toList) = false ∧ ¬ sm.toList = na.toList) ∧ f' = fd)) := by
            by_cases h : sm = na
            · exact ⟨_, idTo_hit (by omega) (by rw [HSm2.out]; exact h), .inl ⟨h, HXm.out⟩⟩
            · have h2 : ¬ sm.toList = na.toList := fun e => h (ba_eq e)
              exact ⟨_, idTo_miss (by rw [HSm2.out]; exact h) HIt.out, .inr ⟨⟨beq_eq_false_iff_ne.mpr h2, h2⟩, rfl⟩⟩
          obtain ⟨s', b', hnt, hnc⟩ := hnm
          obtain ⟨f', hit, hic⟩ := hid'
          have HNt2 := hid hnt
          have HIt2 := hid hit
          clear hnt hit HNt HIt HSm2 HXm
          rcases hnc with ⟨hq, rfl, rfl⟩ | ⟨dq, rfl, rfl⟩
          · rcases hic with ⟨rfl, rfl⟩ | ⟨⟨dn, dn2⟩, rfl⟩
            · have ss : (s'.toList == s'.toList) = true := beq_self_eq_true _
              subst hq
              go_wp2_with fail
              go_roundg (m + 1)
              case measure => omega
              case rel => exact ⟨m, _, _, _, _, rfl, rfl, rfl, rfl, rfl, by omega, by omega, HNt2, HIt2, rfl⟩
            · subst hq
              go_wp2_with fail
              go_roundg (m + 1)
              case measure => omega
              case rel => exact ⟨m, _, _, _, _, rfl, rfl, rfl, rfl, rfl, by omega, by omega, HNt2, HIt2, rfl⟩
          · rcases hic with ⟨rfl, rfl⟩ | ⟨⟨dn, dn2⟩, rfl⟩
            · go_wp2_with fail
              go_roundg (m + 1)
              case measure => omega
              case rel => exact ⟨m, _, _, _, _, rfl, rfl, rfl, rfl, rfl, by omega, by omega, HNt2, HIt2, rfl⟩
            · go_wp2_with fail
              go_roundg (m + 1)
              case measure => omega
              case rel => exact ⟨m, _, _, _, _, rfl, rfl, rfl, rfl, rfl, by omega, by omega, HNt2, HIt2, rfl⟩
        · obtain rfl : k = 0 := by omega
          have dz : decide ((0 : Int) ≤ z) = false := decide_eq_false hz0
          obtain ⟨rfl, rfl⟩ := nmTo_one HNm.out HNt.out
          have eN : (N.toList == N.toList) = true := beq_self_eq_true _
          have HId := hid (idTo_is HIt.out)
          obtain ⟨r0, hr0⟩ := ofIs_ex ts tk
          have k0 := fun d os => cell_regrown X4.out.cell0 d os
          have k1 := fun d os => cell_regrown X4.out.cell1 d os
          have k2 := fun d os => cell_regrown X4.out.cell2 d os
          have cF : ∀ d os, Calls Try.prog 10 #[] (Sort.grow (redrawn w4 d) os) fun e w'' => e = .returned (.bool true) ∧ ∃ p : Regrown, w'' = Sort.grow (redrawn w4 p.d) p.os := fun d os => Calls.regrown_of (fixed_calls _)
          have cO := fun d os => Calls.regrown_of ((of_calls (am := am) (az := az) (nm := nm) (cm := cm) (ns := ns) (cs := cs) (V4.out.T.below (below_regrown w4 d os)) tk).mono fun e w' ⟨⟨r, h1, h2⟩, h3⟩ => (show e = .returned (.int .i64 r0) ∧ _ from ⟨by rw [h1, ofIs_one h2 hr0], h3⟩))
          have cR := fun d os => Calls.regrown_of ((rof_calls (V4.out.T.below (below_regrown w4 d os)) tk).mono fun e w' ⟨⟨r, h1, h2⟩, h3⟩ => (show e = .returned (.int .i64 r0) ∧ Below (Sort.grow (redrawn w4 d) os).heap.size (Sort.grow (redrawn w4 d) os) w' from ⟨by rw [h1, ofIs_one h2 hr0], by rw [h3]; exact Below.refl _ _⟩))
          have cI := fun d os => Calls.regrown_of ((id_calls (a := some ⟨b, off, none⟩) (am := am) (n := n) (c := c) (nm := nm) (cm := cm) (V4.out.S.below (below_regrown w4 d os)) na).mono fun e w' ⟨⟨r, h1, h2⟩, h3⟩ => (show e = .returned (.int .i64 fd) ∧ _ from ⟨by rw [h1, idIs_one h2 HId.out], h3⟩))
          clear hr0 HId HNt HIt HNm V4 X4
          go_wp2_with fail
          refine wp_region_quiet_below (by kernel_rfl) (by kernel_rfl) ?_
          repeat (any_goals (first | go_big_quiet_step (first | exact cF _ _ | exact cO _ _ | exact cR _ _ | exact cI _ _) | quiet_step (first | exact cF _ _ | exact cO _ _ | exact cR _ _ | exact cI _ _)))
          refine wpQuiet_nil ?_
          intro _ hw'
          obtain ⟨⟨dq, osq⟩, hw''⟩ := hw'
          subst hw''
          go_wp2_with fail
          go_ret
          exact ⟨rfl, B4.out.trans ((below_regrown _ dq osq).mono B4.out.size)⟩
  · subst hS hB
    have Xq := X2
    have Vq := V2
    have Bq := B2
    clear X3 V3 B3 X2 V2 B2
    by_cases r0 : 0 ≤ x
    · have r1 : ¬ x < n := fun h => hr ⟨r0, h⟩
      have dr1 : decide (x < (n : Int)) = false := decide_eq_false r1
      clear hr
      have xq0 := Xq.out.cell0
      have xq1 := Xq.out.cell1
      have xq2 := Xq.out.cell2
      go_wp2_with fail
      refine (name_calls Vq.out.S _).mono ?_
      rintro e w4 ⟨E4, b4⟩
      have X4 := hid (Xq.out.below b4 Xq.out.lt)
      have V4 := hid (Vq.out.below b4)
      have B4 := hid (Bq.out.trans (b4.mono Bq.out.size))
      clear b4 Xq Vq Bq
      obtain ⟨N, C, rfl, hN⟩ := nmOut_to E4
      have HNm := hid hN
      clear E4 hN
      have y0 := X4.out.cell0
      have y1 := X4.out.cell1
      have y2 := X4.out.cell2
      have ew : IntKind.i64.wrap ((ns : Int) - 1) = ns - 1 := i64_in (by omega) (by omega)
      go_wp2_with fail
      go_loopg [15, 16, 17, 18] (ns + 1) (fun r nv fv cv iv wr => ∃ (k : Nat) (z : Int) (s : ByteArray) (fd : Int) (b : Bool), r = k + 1 ∧ nv = .string s ∧ fv = .int .i64 fd ∧ cv = .bool b ∧ iv = .int .i64 z ∧ z + 1 = k ∧ k ≤ ns ∧ Hid (Vc.NmTo sp k x s b) ∧ Hid (Vc.IdTo sp k na fd) ∧ w4 = wr)
      case atStart => exact ⟨ns, _, _, _, _, rfl, rfl, rfl, rfl, rfl, by omega, by omega, hid (.inr ⟨fun i h1 h2 => by omega, rfl, rfl⟩), hid (.inr ⟨fun i h1 h2 => by omega, rfl⟩), rfl⟩
      case round =>
        obtain ⟨k, z, s, fd, b, rfl, rfl, rfl, rfl, rfl, hzk, hk, HNt, HIt, rfl⟩ := hrel
        by_cases hz0 : 0 ≤ z
        · obtain ⟨m, rfl⟩ : ∃ m : Nat, z = m := ⟨z.toNat, by omega⟩
          obtain rfl : k = m + 1 := by omega
          have m1 : (m : Int) < ns := by omega
          have m2 : IntKind.i64.wrap ((m : Int) - 1) = m - 1 := i64_in (by omega) (by omega)
          obtain ⟨b2, off2, rfl, hbl2, hc⟩ := V4.out.S.at' (by omega)
          obtain ⟨p0, p1⟩ := hc m (by omega)
          obtain ⟨sm, hsm⟩ : ∃ x, tat sp m = x := ⟨_, rfl⟩
          obtain ⟨xm, hxm⟩ : ∃ x, kat sp m = x := ⟨_, rfl⟩
          rw [hsm] at p0
          rw [hxm] at p1
          have HSm2 := hid hsm
          have HXm := hid hxm
          clear hc hsm hxm hzk
          have hnm : ∃ s' b', Vc.NmTo sp m x s' b' ∧ ((xm = x ∧ s' = sm ∧ b' = true) ∨ ((xm == x) = false ∧ s' = s ∧ b' = b)) := by
            by_cases h : xm = x
            · exact ⟨_, _, nmTo_hit (by omega) (by rw [HXm.out]; exact h), .inl ⟨h, HSm2.out, rfl⟩⟩
            · exact ⟨_, _, nmTo_miss (by rw [HXm.out]; exact h) HNt.out, .inr ⟨by simpa using h, rfl, rfl⟩⟩
          have hid' : ∃ f', Vc.IdTo sp m na f' ∧ ((sm = na ∧ f' = xm) ∨ (((sm.toList == na.toList) = false ∧ ¬ sm.toList = na.toList) ∧ f' = fd)) := by
            by_cases h : sm = na
            · exact ⟨_, idTo_hit (by omega) (by rw [HSm2.out]; exact h), .inl ⟨h, HXm.out⟩⟩
            · have h2 : ¬ sm.toList = na.toList := fun e => h (ba_eq e)
              exact ⟨_, idTo_miss (by rw [HSm2.out]; exact h) HIt.out, .inr ⟨⟨beq_eq_false_iff_ne.mpr h2, h2⟩, rfl⟩⟩
          obtain ⟨s', b', hnt, hnc⟩ := hnm
          obtain ⟨f', hit, hic⟩ := hid'
          have HNt2 := hid hnt
          have HIt2 := hid hit
          clear hnt hit HNt HIt HSm2 HXm
          rcases hnc with ⟨hq, rfl, rfl⟩ | ⟨dq, rfl, rfl⟩
          · rcases hic with ⟨rfl, rfl⟩ | ⟨⟨dn, dn2⟩, rfl⟩
            · have ss : (s'.toList == s'.toList) = true := beq_self_eq_true _
              subst hq
              go_wp2_with fail
              go_roundg (m + 1)
              case measure => omega
              case rel => exact ⟨m, _, _, _, _, rfl, rfl, rfl, rfl, rfl, by omega, by omega, HNt2, HIt2, rfl⟩
            · subst hq
              go_wp2_with fail
              go_roundg (m + 1)
              case measure => omega
              case rel => exact ⟨m, _, _, _, _, rfl, rfl, rfl, rfl, rfl, by omega, by omega, HNt2, HIt2, rfl⟩
          · rcases hic with ⟨rfl, rfl⟩ | ⟨⟨dn, dn2⟩, rfl⟩
            · go_wp2_with fail
              go_roundg (m + 1)
              case measure => omega
              case rel => exact ⟨m, _, _, _, _, rfl, rfl, rfl, rfl, rfl, by omega, by omega, HNt2, HIt2, rfl⟩
            · go_wp2_with fail
              go_roundg (m + 1)
              case measure => omega
              case rel => exact ⟨m, _, _, _, _, rfl, rfl, rfl, rfl, rfl, by omega, by omega, HNt2, HIt2, rfl⟩
        · obtain rfl : k = 0 := by omega
          have dz : decide ((0 : Int) ≤ z) = false := decide_eq_false hz0
          obtain ⟨rfl, rfl⟩ := nmTo_one HNm.out HNt.out
          have eN : (N.toList == N.toList) = true := beq_self_eq_true _
          have HId := hid (idTo_is HIt.out)
          obtain ⟨r0, hr0⟩ := ofIs_ex ts tk
          have k0 := fun d os => cell_regrown X4.out.cell0 d os
          have k1 := fun d os => cell_regrown X4.out.cell1 d os
          have k2 := fun d os => cell_regrown X4.out.cell2 d os
          have cF : ∀ d os, Calls Try.prog 10 #[] (Sort.grow (redrawn w4 d) os) fun e w'' => e = .returned (.bool true) ∧ ∃ p : Regrown, w'' = Sort.grow (redrawn w4 p.d) p.os := fun d os => Calls.regrown_of (fixed_calls _)
          have cO := fun d os => Calls.regrown_of ((of_calls (am := am) (az := az) (nm := nm) (cm := cm) (ns := ns) (cs := cs) (V4.out.T.below (below_regrown w4 d os)) tk).mono fun e w' ⟨⟨r, h1, h2⟩, h3⟩ => (show e = .returned (.int .i64 r0) ∧ _ from ⟨by rw [h1, ofIs_one h2 hr0], h3⟩))
          have cR := fun d os => Calls.regrown_of ((rof_calls (V4.out.T.below (below_regrown w4 d os)) tk).mono fun e w' ⟨⟨r, h1, h2⟩, h3⟩ => (show e = .returned (.int .i64 r0) ∧ Below (Sort.grow (redrawn w4 d) os).heap.size (Sort.grow (redrawn w4 d) os) w' from ⟨by rw [h1, ofIs_one h2 hr0], by rw [h3]; exact Below.refl _ _⟩))
          have cI := fun d os => Calls.regrown_of ((id_calls (a := a) (am := am) (n := n) (c := c) (nm := nm) (cm := cm) (V4.out.S.below (below_regrown w4 d os)) na).mono fun e w' ⟨⟨r, h1, h2⟩, h3⟩ => (show e = .returned (.int .i64 fd) ∧ _ from ⟨by rw [h1, idIs_one h2 HId.out], h3⟩))
          clear hr0 HId HNt HIt HNm V4 X4
          go_wp2_with fail
          refine wp_region_quiet_below (by kernel_rfl) (by kernel_rfl) ?_
          repeat (any_goals (first | go_big_quiet_step (first | exact cF _ _ | exact cO _ _ | exact cR _ _ | exact cI _ _) | quiet_step (first | exact cF _ _ | exact cO _ _ | exact cR _ _ | exact cI _ _)))
          refine wpQuiet_nil ?_
          intro _ hw'
          obtain ⟨⟨dq, osq⟩, hw''⟩ := hw'
          subst hw''
          go_wp2_with fail
          go_ret
          exact ⟨rfl, B4.out.trans ((below_regrown _ dq osq).mono B4.out.size)⟩
    · have dr0 : decide ((0 : Int) ≤ x) = false := decide_eq_false r0
      clear hr
      have xq0 := Xq.out.cell0
      have xq1 := Xq.out.cell1
      have xq2 := Xq.out.cell2
      go_wp2_with fail
      refine (name_calls Vq.out.S _).mono ?_
      rintro e w4 ⟨E4, b4⟩
      have X4 := hid (Xq.out.below b4 Xq.out.lt)
      have V4 := hid (Vq.out.below b4)
      have B4 := hid (Bq.out.trans (b4.mono Bq.out.size))
      clear b4 Xq Vq Bq
      obtain ⟨N, C, rfl, hN⟩ := nmOut_to E4
      have HNm := hid hN
      clear E4 hN
      have y0 := X4.out.cell0
      have y1 := X4.out.cell1
      have y2 := X4.out.cell2
      have ew : IntKind.i64.wrap ((ns : Int) - 1) = ns - 1 := i64_in (by omega) (by omega)
      go_wp2_with fail
      go_loopg [15, 16, 17, 18] (ns + 1) (fun r nv fv cv iv wr => ∃ (k : Nat) (z : Int) (s : ByteArray) (fd : Int) (b : Bool), r = k + 1 ∧ nv = .string s ∧ fv = .int .i64 fd ∧ cv = .bool b ∧ iv = .int .i64 z ∧ z + 1 = k ∧ k ≤ ns ∧ Hid (Vc.NmTo sp k x s b) ∧ Hid (Vc.IdTo sp k na fd) ∧ w4 = wr)
      case atStart => exact ⟨ns, _, _, _, _, rfl, rfl, rfl, rfl, rfl, by omega, by omega, hid (.inr ⟨fun i h1 h2 => by omega, rfl, rfl⟩), hid (.inr ⟨fun i h1 h2 => by omega, rfl⟩), rfl⟩
      case round =>
        obtain ⟨k, z, s, fd, b, rfl, rfl, rfl, rfl, rfl, hzk, hk, HNt, HIt, rfl⟩ := hrel
        by_cases hz0 : 0 ≤ z
        · obtain ⟨m, rfl⟩ : ∃ m : Nat, z = m := ⟨z.toNat, by omega⟩
          obtain rfl : k = m + 1 := by omega
          have m1 : (m : Int) < ns := by omega
          have m2 : IntKind.i64.wrap ((m : Int) - 1) = m - 1 := i64_in (by omega) (by omega)
          obtain ⟨b2, off2, rfl, hbl2, hc⟩ := V4.out.S.at' (by omega)
          obtain ⟨p0, p1⟩ := hc m (by omega)
          obtain ⟨sm, hsm⟩ : ∃ x, tat sp m = x := ⟨_, rfl⟩
          obtain ⟨xm, hxm⟩ : ∃ x, kat sp m = x := ⟨_, rfl⟩
          rw [hsm] at p0
          rw [hxm] at p1
          have HSm2 := hid hsm
          have HXm := hid hxm
          clear hc hsm hxm hzk
          have hnm : ∃ s' b', Vc.NmTo sp m x s' b' ∧ ((xm = x ∧ s' = sm ∧ b' = true) ∨ ((xm == x) = false ∧ s' = s ∧ b' = b)) := by
            by_cases h : xm = x
            · exact ⟨_, _, nmTo_hit (by omega) (by rw [HXm.out]; exact h), .inl ⟨h, HSm2.out, rfl⟩⟩
            · exact ⟨_, _, nmTo_miss (by rw [HXm.out]; exact h) HNt.out, .inr ⟨by simpa using h, rfl, rfl⟩⟩
          have hid' : ∃ f', Vc.IdTo sp m na f' ∧ ((sm = na ∧ f' = xm) ∨ (((sm.toList == na.toList) = false ∧ ¬ sm.toList = na.toList) ∧ f' = fd)) := by
            by_cases h : sm = na
            · exact ⟨_, idTo_hit (by omega) (by rw [HSm2.out]; exact h), .inl ⟨h, HXm.out⟩⟩
            · have h2 : ¬ sm.toList = na.toList := fun e => h (ba_eq e)
              exact ⟨_, idTo_miss (by rw [HSm2.out]; exact h) HIt.out, .inr ⟨⟨beq_eq_false_iff_ne.mpr h2, h2⟩, rfl⟩⟩
          obtain ⟨s', b', hnt, hnc⟩ := hnm
          obtain ⟨f', hit, hic⟩ := hid'
          have HNt2 := hid hnt
          have HIt2 := hid hit
          clear hnt hit HNt HIt HSm2 HXm
          rcases hnc with ⟨hq, rfl, rfl⟩ | ⟨dq, rfl, rfl⟩
          · rcases hic with ⟨rfl, rfl⟩ | ⟨⟨dn, dn2⟩, rfl⟩
            · have ss : (s'.toList == s'.toList) = true := beq_self_eq_true _
              subst hq
              go_wp2_with fail
              go_roundg (m + 1)
              case measure => omega
              case rel => exact ⟨m, _, _, _, _, rfl, rfl, rfl, rfl, rfl, by omega, by omega, HNt2, HIt2, rfl⟩
            · subst hq
              go_wp2_with fail
              go_roundg (m + 1)
              case measure => omega
              case rel => exact ⟨m, _, _, _, _, rfl, rfl, rfl, rfl, rfl, by omega, by omega, HNt2, HIt2, rfl⟩
          · rcases hic with ⟨rfl, rfl⟩ | ⟨⟨dn, dn2⟩, rfl⟩
            · go_wp2_with fail
              go_roundg (m + 1)
              case measure => omega
              case rel => exact ⟨m, _, _, _, _, rfl, rfl, rfl, rfl, rfl, by omega, by omega, HNt2, HIt2, rfl⟩
            · go_wp2_with fail
              go_roundg (m + 1)
              case measure => omega
              case rel => exact ⟨m, _, _, _, _, rfl, rfl, rfl, rfl, rfl, by omega, by omega, HNt2, HIt2, rfl⟩
        · obtain rfl : k = 0 := by omega
          have dz : decide ((0 : Int) ≤ z) = false := decide_eq_false hz0
          obtain ⟨rfl, rfl⟩ := nmTo_one HNm.out HNt.out
          have eN : (N.toList == N.toList) = true := beq_self_eq_true _
          have HId := hid (idTo_is HIt.out)
          obtain ⟨r0, hr0⟩ := ofIs_ex ts tk
          have k0 := fun d os => cell_regrown X4.out.cell0 d os
          have k1 := fun d os => cell_regrown X4.out.cell1 d os
          have k2 := fun d os => cell_regrown X4.out.cell2 d os
          have cF : ∀ d os, Calls Try.prog 10 #[] (Sort.grow (redrawn w4 d) os) fun e w'' => e = .returned (.bool true) ∧ ∃ p : Regrown, w'' = Sort.grow (redrawn w4 p.d) p.os := fun d os => Calls.regrown_of (fixed_calls _)
          have cO := fun d os => Calls.regrown_of ((of_calls (am := am) (az := az) (nm := nm) (cm := cm) (ns := ns) (cs := cs) (V4.out.T.below (below_regrown w4 d os)) tk).mono fun e w' ⟨⟨r, h1, h2⟩, h3⟩ => (show e = .returned (.int .i64 r0) ∧ _ from ⟨by rw [h1, ofIs_one h2 hr0], h3⟩))
          have cR := fun d os => Calls.regrown_of ((rof_calls (V4.out.T.below (below_regrown w4 d os)) tk).mono fun e w' ⟨⟨r, h1, h2⟩, h3⟩ => (show e = .returned (.int .i64 r0) ∧ Below (Sort.grow (redrawn w4 d) os).heap.size (Sort.grow (redrawn w4 d) os) w' from ⟨by rw [h1, ofIs_one h2 hr0], by rw [h3]; exact Below.refl _ _⟩))
          have cI := fun d os => Calls.regrown_of ((id_calls (a := a) (am := am) (n := n) (c := c) (nm := nm) (cm := cm) (V4.out.S.below (below_regrown w4 d os)) na).mono fun e w' ⟨⟨r, h1, h2⟩, h3⟩ => (show e = .returned (.int .i64 fd) ∧ _ from ⟨by rw [h1, idIs_one h2 HId.out], h3⟩))
          clear hr0 HId HNt HIt HNm V4 X4
          go_wp2_with fail
          refine wp_region_quiet_below (by kernel_rfl) (by kernel_rfl) ?_
          repeat (any_goals (first | go_big_quiet_step (first | exact cF _ _ | exact cO _ _ | exact cR _ _ | exact cI _ _) | quiet_step (first | exact cF _ _ | exact cO _ _ | exact cR _ _ | exact cI _ _)))
          refine wpQuiet_nil ?_
          intro _ hw'
          obtain ⟨⟨dq, osq⟩, hw''⟩ := hw'
          subst hw''
          go_wp2_with fail
          go_ret
          exact ⟨rfl, B4.out.trans ((below_regrown _ dq osq).mono B4.out.size)⟩
end Go.Proofs.Ytjpboackbjfenaa
