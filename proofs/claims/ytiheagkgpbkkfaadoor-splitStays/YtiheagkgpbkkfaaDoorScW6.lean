/-
  A reader's decided and way; scan.Next.
-/
import Derived.Test.YtiheagkgpbkkfaaDoorScW5
import Derived.Test.YtiheagkgpbkkfaaDoorScNxV
import Derived.Laws.EntriesVeiled
namespace Go.Proofs.YtiheagkgpbkkfaaDoor
open Go.RowKit
set_option linter.unusedVariables false
section
variable {D : Dt} {X : Nat → Prop} {w : World} {k : Nat}
/-- What decided asks. -/
def Dt.DecP (D : Dt) (kind reach : Nat) : Prop := reach ≤ D.ps.length ∧ D.sm reach ≤ D.bn - Utf.rest D.f D.bn ∧ ¬ MayK kind D.f (D.bn - Utf.rest D.f D.bn)
theorem decP_iff (hz : ∀ i, 0 ≤ D.f i) {kind reach : Nat} (hk : kind = 1 ∨ kind = 2 ∨ kind = 3) (h1 : 1 ≤ reach) (hr : reach = (Sc.piece D.cl kind D.ps).2) : D.DecP kind reach ↔ Sc.Dec D.cl kind (Sc.sure D.f D.bn) D.ps := by
  have hs := Sc.sure_le D.f D.bn
  unfold Dt.DecP Sc.Dec
  rw [← hr]
  constructor
  · rintro ⟨a, b, c⟩
    have h2 : reach ≤ Sc.sure D.f D.bn := (Sc.sm_sure (f := D.f) (n := D.bn) a).1 b
    refine ⟨h2, ?_⟩
    rcases hk with rfl | rfl | rfl
    · exact .inl rfl
    · right
      cases hb : Sc.begun (2 == 3) (Sc.sure D.f D.bn) D.ps with
      | false => rfl
      | true => exact absurd ⟨.inl rfl, (Sc.begun_bytes hz (by omega)).2 hb⟩ c
    · right
      cases hb : Sc.begun (3 == 3) (Sc.sure D.f D.bn) D.ps with
      | false => rfl
      | true => exact absurd ⟨.inr rfl, (Sc.begun_bytes hz (by omega)).2 hb⟩ c
  · rintro ⟨a, b⟩
    have ha : reach ≤ D.ps.length := Nat.le_trans a hs
    refine ⟨ha, (Sc.sm_sure (f := D.f) (n := D.bn) ha).2 a, fun hm => ?_⟩
    have hb := (Sc.begun_bytes (w := kind == 3) hz (by omega)).1 hm.2
    rcases b with b | b
    · have := hm.1; omega
    · rw [show Sc.begun (kind == 3) (Sc.sure D.f D.bn) (Utf.pts D.f D.bn) = false from b] at hb
      cases hb
set_option maxRecDepth 100000 in
set_option maxHeartbeats 1600000 in
theorem decided_calls (h : Rd D X w k) (hE : Ends D.W) (kind reach : Nat) (hk : kind ≤ 3) (h1 : 1 ≤ reach) (h2 : reach ≤ 500000) :
    Calls Tryd.prog 40 #[.pointer (some ⟨D.o, 0, none⟩), .int .i64 (kind : Int), .int .i64 (reach : Int)] w fun e w' => (∃ t : Bool, e = .returned (.bool t) ∧ (t = true ↔ D.DecP kind reach)) ∧ Gone D X w k 0 w' := by
  have hs := h.small
  have hl := h.len
  have HR := hid h
  have hpos := h.pos
  have hrl := (Utf.rest_le D.bn D.bn D.f (Nat.le_refl _)).1
  obtain ⟨a1, c1, a2, c2, x1, x2, x3, x4⟩ := h.ex
  have d1 := x1.cell1
  have QF := hid (fun q => open_calls (w := w.drewN q) (h.bytes.below (below_drewN (Below.refl _ _) q)) h.pos)
  have HP := hid (show D.DecP kind reach ↔ reach ≤ D.ps.length ∧ D.sm reach ≤ D.bn - Utf.rest D.f D.bn ∧ ¬ MayK kind D.f (D.bn - Utf.rest D.f D.bn) from Iff.rfl)
  have HBL := h.bytes.le
  obtain ⟨r, hr⟩ : ∃ r, Utf.rest D.f D.bn = r := ⟨_, rfl⟩
  rw [hr] at QF HP hrl
  obtain ⟨V, hV⟩ : ∃ V, D.bn - r = V := ⟨_, rfl⟩
  rw [hV] at HP
  have e1 : IntKind.i64.wrap ((D.bn : Int) - r) = V := by rw [i64_in (by omega) (by omega)]; omega
  have e2 : IntKind.i64.wrap ((reach : Int) - 1) = ((reach - 1 : Nat) : Int) := by rw [i64_in (by omega) (by omega)]; omega
  obtain ⟨R, hR⟩ : ∃ R, reach - 1 = R := ⟨_, rfl⟩
  rw [hR] at e2
  have HRR := hid hR
  have hVn : V ≤ D.bn := by omega
  clear h x1 x2 x3 x4 hr hV hR
  go_enter Tryd.func40, Tryd.ntmps40
  go_wp2_with fail
  go_quiet (exact Calls.quiet_of_same (QF.out _))
  obtain ⟨W, hW⟩ : ∃ W, w.drewN nq = W := ⟨_, rfl⟩
  have bb : Below w.heap.size w W := hW ▸ below_drewN (Below.refl _ _) nq
  rw [hW]
  have R1 := hid (HR.out.below bb)
  have M1 := hid (Mut.ofBelow bb (fun b => ¬ X b))
  clear hW bb d1 QF HR
  have HC := hid (has_calls R1.out R (by have := HRR.out; omega))
  go_wp2_with fail
  refine HC.out.mono ?_
  rintro e w2 ⟨rfl, g2⟩
  clear HC
  obtain ⟨k2, a2, b2, R2, M2⟩ := g2
  have HM2 := hid (M1.out.trans M2 (fun _ _ e => e))
  have HA2 := hid a2
  have HR2 := hid R2
  have HB2 := hid b2
  clear M2 a2 b2 R2
  by_cases hin : reach ≤ D.ps.length
  · have hRl : R < D.ps.length := by have := HRR.out; omega
    rw [(Dt.has_yes hRl).2] at HB2
    rw [(Dt.has_yes hRl).1]
    have HEc := hid (end_calls HR2.out reach (by have := HB2.out; have := HRR.out; omega))
    have HIn := hid hin
    obtain ⟨S, hS⟩ : ∃ S, D.sm reach = S := ⟨_, rfl⟩
    rw [hS] at HEc HP
    obtain ⟨a1, c1, a2, c2, x1, x2, x3, x4⟩ := HR2.out.ex
    have d1 := x1.cell1
    have HY := hid (HR2.out.bytes.first V hVn)
    have HE2 := hid (hE.below HR2.out.old (Nat.le_refl _))
    clear x1 x2 x3 x4 hS hRl hin
    by_cases hsv : S ≤ V
    · have k1 : (S : Int) ≤ V := by omega
      have z1 : (V : Int) ≤ D.bc := by omega
      have z2 : (0 : Int) ≤ V := by omega
      have HSV := hid hsv
      clear hsv
      go_wp2_with fail
      refine HEc.out.mono ?_
      rintro e w2 ⟨rfl, rfl⟩
      go_wp2_with fail
      refine (mayEnd_calls HY.out HE2.out hk).mono ?_
      rintro e w2 ⟨⟨t, rfl, ht⟩, rfl⟩
      have HT := hid ht
      have HG := hid (show Gone D X w k 0 w2 from ⟨k2, HA2.out, Nat.zero_le _, HR2.out, HM2.out⟩)
      have HF := hid (show (!t) = true ↔ D.DecP kind reach by
        rw [HP.out]
        constructor
        · intro e
          exact ⟨HIn.out, HSV.out, fun hm => by rw [HT.out.2 hm] at e; cases e⟩
        · rintro ⟨_, _, hn⟩
          cases t
          · rfl
          · exact absurd (HT.out.1 rfl) hn)
      clear ht HT HP HR2 HM2
      go_wp2_with fail
      go_ret
      exact ⟨⟨_, rfl, HF.out⟩, HG.out⟩
    · have k1 : ¬ (S : Int) ≤ V := by omega
      have HG := hid (show Gone D X w k 0 w2 from ⟨k2, HA2.out, Nat.zero_le _, HR2.out, HM2.out⟩)
      have HF := hid (show ¬ D.DecP kind reach from fun e => hsv (HP.out.1 e).2.1)
      clear hsv HP HR2 HM2
      go_wp2_with fail
      refine HEc.out.mono ?_
      rintro e w2 ⟨rfl, rfl⟩
      go_wp2_with fail
      go_ret
      exact ⟨⟨_, rfl, ⟨fun e => (by cases e), fun e => absurd e HF.out⟩⟩, HG.out⟩
  · have hRl : ¬ R < D.ps.length := by have := HRR.out; omega
    rw [(Dt.has_no hRl).1]
    have HG := hid (show Gone D X w k 0 w2 from ⟨k2, HA2.out, Nat.zero_le _, HR2.out, HM2.out⟩)
    have HF := hid (show ¬ D.DecP kind reach from fun e => hin (HP.out.1 e).1)
    clear hin HP HR2 HM2 hRl
    go_wp2_with fail
    go_ret
    exact ⟨⟨_, rfl, ⟨fun e => (by cases e), fun e => absurd e HF.out⟩⟩, HG.out⟩
set_option maxRecDepth 100000 in
set_option maxHeartbeats 1600000 in
theorem way0_calls (o : Nat) (w : World) :
    Calls Tryd.prog 38 #[.pointer (some ⟨o, 0, none⟩), .int .i64 0] w fun e w' => e = .returned (.func (.func 51) #[.pointer (some ⟨o, 0, none⟩)] #[]) ∧ w' = w := by
  go_enter Tryd.func38, Tryd.ntmps38
  go_wp2_with fail
  go_ret
  exact ⟨rfl, rfl⟩
set_option maxRecDepth 100000 in
set_option maxHeartbeats 1600000 in
theorem way1_calls (o : Nat) (w : World) :
    Calls Tryd.prog 38 #[.pointer (some ⟨o, 0, none⟩), .int .i64 1] w fun e w' => e = .returned (.func (.func 52) #[.pointer (some ⟨o, 0, none⟩)] #[]) ∧ w' = w := by
  go_enter Tryd.func38, Tryd.ntmps38
  go_wp2_with fail
  go_ret
  exact ⟨rfl, rfl⟩
set_option maxRecDepth 100000 in
set_option maxHeartbeats 1600000 in
theorem way2_calls (o : Nat) (w : World) :
    Calls Tryd.prog 38 #[.pointer (some ⟨o, 0, none⟩), .int .i64 2] w fun e w' => e = .returned (.func (.func 53) #[.pointer (some ⟨o, 0, none⟩)] #[]) ∧ w' = w := by
  go_enter Tryd.func38, Tryd.ntmps38
  go_wp2_with fail
  go_ret
  exact ⟨rfl, rfl⟩
set_option maxRecDepth 100000 in
set_option maxHeartbeats 1600000 in
theorem way3_calls (o : Nat) (w : World) :
    Calls Tryd.prog 38 #[.pointer (some ⟨o, 0, none⟩), .int .i64 3] w fun e w' => e = .returned (.func (.func 54) #[.pointer (some ⟨o, 0, none⟩)] #[]) ∧ w' = w := by
  go_enter Tryd.func38, Tryd.ntmps38
  go_wp2_with fail
  go_ret
  exact ⟨rfl, rfl⟩
set_option maxRecDepth 100000 in
set_option maxHeartbeats 1600000 in
theorem wayo_calls (o : Nat) (kind : Int) (hk : ¬ (kind = 0 ∨ kind = 1 ∨ kind = 2 ∨ kind = 3)) (w : World) :
    Calls Tryd.prog 38 #[.pointer (some ⟨o, 0, none⟩), .int .i64 kind] w fun e w' => e = .returned Value.nilFunc ∧ w' = w := by
  have t0 : (kind == 0) = false := by simp; omega
  have t1 : (kind == 1) = false := by simp; omega
  have t2 : (kind == 2) = false := by simp; omega
  have t3 : (kind == 3) = false := by simp; omega
  clear hk
  go_enter Tryd.func38, Tryd.ntmps38
  go_wp2_with fail
  go_ret
  exact ⟨rfl, rfl⟩
end
theorem Rd.new {w : World} {ta : Option Addr} {tn tc bb bo bn bc : Nat} {L H C f : Nat → Int} (T : Rs w ta tn tc L H C) (B : Sl w (some ⟨bb, bo, none⟩) bn bc f) (h0 : 0 < bn) (hs : bn ≤ 100000) :
    Rd ⟨w.heap.size, w, ta, tn, tc, L, H, C, bb, bo, bn, bc, f⟩ (fun b => b < w.heap.size) (w.alloc (.cells #[.slice ta tn tc, .slice (some ⟨bb, bo, none⟩) bn bc, .slice none 0 0, .slice none 0 0] 72)) 0 :=
  ⟨⟨none, 0, none, 0, Bx4.new w _ _ _ _ _, World.ownsRow_nil _ _ _ _, World.ownsRow_nil _ _ _ _, ⟨.inl rfl, .inl rfl, by simp [Value.ownBlock], by simp [Value.ownBlock], fun g e => (by simp [Value.ownBlock] at e), fun g e => (by simp [Value.ownBlock] at e)⟩⟩, Nat.zero_le _, Nat.lt_irrefl _, fun b hb => by have hb : b < w.heap.size := hb; simp; omega, (Below.refl _ w).alloc (Nat.le_refl _) _, fun b hb => hb, T, B, h0, hs⟩
section
variable {D : Dt} {X : Nat → Prop} {w : World} {k : Nat}
/-- The piece of a kind, and its reach; whether it is decided. -/
def Dt.pc (D : Dt) (kind : Nat) : Nat × Nat := if kind = 0 then (D.ps.length, D.ps.length + 1) else Sc.piece D.cl kind D.ps
def Dt.dc (D : Dt) (kind : Nat) : Bool := if kind = 0 then false else Sc.decB D.cl kind (Sc.sure D.f D.bn) D.ps
theorem pc_0 : D.pc 0 = (D.ps.length, D.ps.length + 1) := rfl
theorem pc_1 : D.pc 1 = Sc.word D.cl D.ps := Sc.piece_1 _
theorem pc_2 : D.pc 2 = Sc.plain D.cl D.ps := Sc.piece_2 _
theorem pc_3 : D.pc 3 = Sc.wide D.cl D.ps := Sc.piece_3 _
theorem kind_facts (h : Rd D X w k) (hm : Cl.may D.L D.H D.C D.tn = true) {kind : Nat} (hk : kind ≤ 3) :
    1 ≤ (D.pc kind).2 ∧ (D.pc kind).2 ≤ 500000 ∧ (∀ t : Bool, (t = true ↔ D.DecP kind (D.pc kind).2) → t = D.dc kind) ∧ ∀ fin : Bool, Sc.nx D.cl (Cl.may D.L D.H D.C D.tn) (kind : Int) D.f D.bn fin = (D.sm (D.pc kind).1, fin || D.dc kind) := by
  have hpos := h.pos
  have hs := h.small
  have hl := h.len
  have hno : ¬ (D.bn = 0 ∨ Cl.may D.L D.H D.C D.tn = false) := fun e => e.elim (by omega) (fun e => by rw [hm] at e; cases e)
  by_cases h0 : kind = 0
  · subst h0
    rw [pc_0]
    refine ⟨by simp only; omega, by simp only; omega, fun t ht => ?_, fun fin => ?_⟩
    · cases t
      · rfl
      · have := (ht.1 rfl).1; simp only at this; omega
    · have e : D.sm D.ps.length = D.bn := Sc.sm_all (Nat.le_refl _)
      have e2 := Sc.nx_zero (cl := D.cl) (f := D.f) (fin := fin) hno
      show Sc.nx D.cl _ 0 D.f D.bn fin = _
      rw [e2, e]
      show (D.bn, fin) = (D.bn, fin || false)
      rw [Bool.or_false]
  · have hk' : kind = 1 ∨ kind = 2 ∨ kind = 3 := by omega
    have e1 : D.pc kind = Sc.piece D.cl kind D.ps := if_neg h0
    have e2 : D.dc kind = Sc.decB D.cl kind (Sc.sure D.f D.bn) D.ps := if_neg h0
    rw [e1, e2]
    have hrg := Sc.reach_ge (kind := kind) (D.cl_rg hm) hk' h.ne
    have hpl := Sc.piece_le (cl := D.cl) (kind := kind) D.ps
    have hway := Sc.way (cl := D.cl) (kind := kind) D.ps hk'
    refine ⟨by omega, ?_, fun t ht => ?_, fun fin => Sc.nx_kind hno hk'⟩
    · have hsp : Sc.sp D.cl D.ps ≤ D.ps.length := Sc.tw_le _ _
      generalize Sc.piece D.cl kind D.ps = q at hway hpl
      rcases hway with ⟨w, n, h, hw, h0, rfl⟩ | ⟨n, rfl⟩ | ⟨h, h2, rfl⟩ | ⟨h, rfl⟩ | ⟨h3, h, rfl⟩
      · simp only at hpl ⊢; omega
      · simp only at hpl ⊢; omega
      · simp only; omega
      · simp only; omega
      · simp only; omega
    · have h3 := ht.trans ((decP_iff (D := D) (kind := kind) (fun i => (h.byt.bd i).1) hk' (by omega) rfl).trans Sc.decB_iff.symm)
      cases t
      · cases hd : Sc.decB D.cl kind (Sc.sure D.f D.bn) D.ps
        · rfl
        · exact absurd (h3.2 hd) (by decide)
      · exact (h3.1 rfl).symm
end
theorem fnSome (F : Nat) (p : Option Addr) (w : World) : (binOp .eql 73 (.func (.func F) #[.pointer p] #[]) Value.nilFunc).run Tryd.prog w = .ok (.bool false) w := by kernel_rfl
theorem fnNil (w : World) : (binOp .eql 73 Value.nilFunc Value.nilFunc).run Tryd.prog w = .ok (.bool true) w := by kernel_rfl
theorem next_none_calls {w : World} {ta ba : Option Addr} {tn tc bc : Nat} {L H C f : Nat → Int} (kind : Int) (fin : Bool) :
    Calls Tryd.prog 29 #[.int .i64 kind, .slice ta tn tc, .slice ba 0 bc, .bool fin] w fun e w' => e = .returned (NX (Sc.nx (Cl.of L H C tn) (Cl.may L H C tn) kind f 0 fin)) ∧ Below w.heap.size w w' := by
  have HN := hid (Sc.nx_none (cl := Cl.of L H C tn) (may := Cl.may L H C tn) (kind := kind) (f := f) (n := 0) (fin := fin) (.inl rfl))
  go_enter Tryd.func29, Tryd.ntmps29
  go_wp2_with fail
  go_ret2
  exact ⟨by rw [HN.out]; rfl, Below.refl _ _⟩
theorem next_may_calls {w : World} {ta : Option Addr} {ba : Option Addr} {tn tc bn bc : Nat} {L H C f : Nat → Int} (T : Rs w ta tn tc L H C) (hpos : 0 < bn) (hbn : bn ≤ 100000) (hm : Cl.may L H C tn = false) (kind : Int) (fin : Bool) :
    Calls Tryd.prog 29 #[.int .i64 kind, .slice ta tn tc, .slice ba bn bc, .bool fin] w fun e w' => e = .returned (NX (Sc.nx (Cl.of L H C tn) (Cl.may L H C tn) kind f bn fin)) ∧ Below w.heap.size w w' := by
  have HN := hid (Sc.nx_none (cl := Cl.of L H C tn) (may := Cl.may L H C tn) (kind := kind) (f := f) (n := bn) (fin := fin) (.inr hm))
  have HT := hid T
  have e0 : ((bn : Int) == 0) = false := by rw [beq_eq_false_iff_ne]; omega
  clear T
  go_enter Tryd.func29, Tryd.ntmps29
  go_wp2_with fail
  refine (may_calls ta tn tc L H C _ HT.out).mono ?_
  rintro e w1 ⟨rfl, b1⟩
  rw [hm]
  have HB := hid b1
  clear hm b1
  go_wp2_with fail
  go_ret2
  exact ⟨by rw [HN.out]; rfl, HB.out⟩
set_option maxRecDepth 100000 in
set_option maxHeartbeats 1600000 in
theorem next0_calls {w : World} {ta : Option Addr} {tn tc bb bo bn bc : Nat} {L H C f : Nat → Int} (T : Rs w ta tn tc L H C) (B : Sl w (some ⟨bb, bo, none⟩) bn bc f) (hpos : 0 < bn) (hs : bn ≤ 100000) (hE : Ends w) (hm : Cl.may L H C tn = true) (fin : Bool) :
    Calls Tryd.prog 29 #[.int .i64 0, .slice ta tn tc, .slice (some ⟨bb, bo, none⟩) bn bc, .bool fin] w fun e w' => e = .returned (NX (Sc.nx (Cl.of L H C tn) (Cl.may L H C tn) 0 f bn fin)) ∧ Below w.heap.size w w' := by
  have HT := hid T
  have HBy := hid B
  have HE := hid hE
  have HM := hid hm
  have e0 : ((bn : Int) == 0) = false := by rw [beq_eq_false_iff_ne]; omega
  clear T B hE
  go_enter Tryd.func29, Tryd.ntmps29
  go_wp2_with fail
  refine (may_calls ta tn tc L H C _ HT.out).mono ?_
  rintro e w1 ⟨rfl, b1⟩
  rw [hm]
  have T1 := HT.out.below b1
  have B1 := HBy.out.below b1
  have E1 := HE.out.below b1 (Nat.le_refl _)
  have HB := hid b1
  clear HT HBy b1 hm HE
  obtain ⟨D, hD⟩ : ∃ D : Dt, D = ⟨w1.heap.size, w1, ta, tn, tc, L, H, C, bb, bo, bn, bc, f⟩ := ⟨_, rfl⟩
  have R0 := hid (show Rd D (fun b => b < w1.heap.size) (w1.alloc (.cells #[.slice ta tn tc, .slice (some ⟨bb, bo, none⟩) bn bc, .slice none 0 0, .slice none 0 0] 72)) 0 from hD ▸ Rd.new T1 B1 hpos hs)
  have HE1 := hid (show Ends D.W from hD ▸ E1)
  have HM2 := hid (show Cl.may D.L D.H D.C D.tn = true from hD ▸ HM.out)
  have hdo := hid (show D.o = w1.heap.size by rw [hD])
  have hdW := hid (show D.W = w1 by rw [hD])
  obtain ⟨f1, f2, f3, f4⟩ := kind_facts R0.out HM2.out (kind := 0) (by decide)
  have HNX := hid (show Sc.nx (Cl.of L H C tn) (Cl.may L H C tn) 0 f bn fin = (D.sm (D.pc 0).1, fin || D.dc 0) by
    have h := f4 fin
    rw [hD] at h ⊢
    exact h)
  have HDT := hid f3
  clear T1 B1 E1 f3 f4 hD
  have HC := hid (none_calls R0.out)
  rw [← pc_0, hdo.out] at HC
  obtain ⟨q1, hq1⟩ : ∃ q, (D.pc 0).1 = q := ⟨_, rfl⟩
  obtain ⟨q2, hq2⟩ : ∃ q, (D.pc 0).2 = q := ⟨_, rfl⟩
  have HQ := hid (⟨hq1, hq2⟩ : (D.pc 0).1 = q1 ∧ (D.pc 0).2 = q2)
  rw [hq2] at f1 f2 HDT
  rw [hq1] at HNX
  clear hq1 hq2
  go_wp2_with fail
  refine (way0_calls _ _).mono ?_
  rintro e w2 ⟨rfl, rfl⟩
  obtain ⟨W, hW⟩ : ∃ W, w1.alloc (.cells #[.slice ta tn tc, .slice (some ⟨bb, bo, none⟩) bn bc, .slice none 0 0, .slice none 0 0] 72) = W := ⟨_, rfl⟩
  have BW := hid (show Below w1.heap.size w1 W from hW ▸ (Below.refl _ w1).alloc (Nat.le_refl _) _)
  rw [hW] at R0 HC ⊢
  clear hW
  have hfn := fnSome 51 (some ⟨w1.heap.size, 0, none⟩) W
  go_wp2_with fail
  refine HC.out.mono ?_
  rintro e w3 ⟨rfl, g3⟩
  rw [HQ.out.1] at g3
  rw [HQ.out.1, HQ.out.2]
  obtain ⟨k3, a3, b3, R3, M3⟩ := g3
  have HEn := hid (end_calls R3 q1 b3)
  rw [hdo.out] at HEn
  have HR3 := hid R3
  have HM3 := hid M3
  clear HC a3 b3 R3 M3 R0
  go_wp2_with fail
  refine HEn.out.mono ?_
  rintro e w3 ⟨rfl, rfl⟩
  clear HEn
  have HZ := hid (show Below w.heap.size w w3 from HB.out.trans (BW.out.trans ((HM3.out.keeps BW.out.size (fun b hb => hb))) |>.mono HB.out.size))
  cases fin with
  | true =>
    go_wp2_with fail
    go_ret2
    exact ⟨ret_nx (by rw [HNX.out]) (by rw [HNX.out]; rfl), HZ.out⟩
  | false =>
    have HDc := hid (decided_calls HR3.out HE1.out 0 q2 (by decide) f1 f2)
    rw [hdo.out] at HDc
    go_wp2_with fail
    refine HDc.out.mono ?_
    rintro e w4 ⟨⟨t, rfl, ht⟩, g4⟩
    have ht2 := HDT.out t ht
    obtain ⟨k4, a4, b4, R4, M4⟩ := g4
    have HZ4 := hid (show Below w.heap.size w w4 from HZ.out.trans ((M4.keeps (K := w1.heap.size) (by have := BW.out.size; have := HM3.out.size; omega) (fun b hb => hb)).mono HB.out.size))
    have HT2 := hid ht2
    clear HDc ht ht2 a4 b4 R4 M4
    go_wp2_with fail
    go_ret2
    exact ⟨ret_nx (by rw [HNX.out]) (by rw [HNX.out, HT2.out]; rfl), HZ4.out⟩
set_option maxRecDepth 100000 in
set_option maxHeartbeats 1600000 in
theorem next1_calls {w : World} {ta : Option Addr} {tn tc bb bo bn bc : Nat} {L H C f : Nat → Int} (T : Rs w ta tn tc L H C) (B : Sl w (some ⟨bb, bo, none⟩) bn bc f) (hpos : 0 < bn) (hs : bn ≤ 100000) (hE : Ends w) (hm : Cl.may L H C tn = true) (fin : Bool) :
    Calls Tryd.prog 29 #[.int .i64 1, .slice ta tn tc, .slice (some ⟨bb, bo, none⟩) bn bc, .bool fin] w fun e w' => e = .returned (NX (Sc.nx (Cl.of L H C tn) (Cl.may L H C tn) 1 f bn fin)) ∧ Below w.heap.size w w' := by
  have HT := hid T
  have HBy := hid B
  have HE := hid hE
  have HM := hid hm
  have e0 : ((bn : Int) == 0) = false := by rw [beq_eq_false_iff_ne]; omega
  clear T B hE
  go_enter Tryd.func29, Tryd.ntmps29
  go_wp2_with fail
  refine (may_calls ta tn tc L H C _ HT.out).mono ?_
  rintro e w1 ⟨rfl, b1⟩
  rw [hm]
  have T1 := HT.out.below b1
  have B1 := HBy.out.below b1
  have E1 := HE.out.below b1 (Nat.le_refl _)
  have HB := hid b1
  clear HT HBy b1 hm HE
  obtain ⟨D, hD⟩ : ∃ D : Dt, D = ⟨w1.heap.size, w1, ta, tn, tc, L, H, C, bb, bo, bn, bc, f⟩ := ⟨_, rfl⟩
  have R0 := hid (show Rd D (fun b => b < w1.heap.size) (w1.alloc (.cells #[.slice ta tn tc, .slice (some ⟨bb, bo, none⟩) bn bc, .slice none 0 0, .slice none 0 0] 72)) 0 from hD ▸ Rd.new T1 B1 hpos hs)
  have HE1 := hid (show Ends D.W from hD ▸ E1)
  have HM2 := hid (show Cl.may D.L D.H D.C D.tn = true from hD ▸ HM.out)
  have hdo := hid (show D.o = w1.heap.size by rw [hD])
  have hdW := hid (show D.W = w1 by rw [hD])
  obtain ⟨f1, f2, f3, f4⟩ := kind_facts R0.out HM2.out (kind := 1) (by decide)
  have HNX := hid (show Sc.nx (Cl.of L H C tn) (Cl.may L H C tn) 1 f bn fin = (D.sm (D.pc 1).1, fin || D.dc 1) by
    have h := f4 fin
    rw [hD] at h ⊢
    exact h)
  have HDT := hid f3
  clear T1 B1 E1 f3 f4 hD
  have HC := hid (blank_calls R0.out HM2.out)
  rw [← pc_1, hdo.out] at HC
  obtain ⟨q1, hq1⟩ : ∃ q, (D.pc 1).1 = q := ⟨_, rfl⟩
  obtain ⟨q2, hq2⟩ : ∃ q, (D.pc 1).2 = q := ⟨_, rfl⟩
  have HQ := hid (⟨hq1, hq2⟩ : (D.pc 1).1 = q1 ∧ (D.pc 1).2 = q2)
  rw [hq2] at f1 f2 HDT
  rw [hq1] at HNX
  clear hq1 hq2
  go_wp2_with fail
  refine (way1_calls _ _).mono ?_
  rintro e w2 ⟨rfl, rfl⟩
  obtain ⟨W, hW⟩ : ∃ W, w1.alloc (.cells #[.slice ta tn tc, .slice (some ⟨bb, bo, none⟩) bn bc, .slice none 0 0, .slice none 0 0] 72) = W := ⟨_, rfl⟩
  have BW := hid (show Below w1.heap.size w1 W from hW ▸ (Below.refl _ w1).alloc (Nat.le_refl _) _)
  rw [hW] at R0 HC ⊢
  clear hW
  have hfn := fnSome 52 (some ⟨w1.heap.size, 0, none⟩) W
  go_wp2_with fail
  refine HC.out.mono ?_
  rintro e w3 ⟨rfl, g3⟩
  rw [HQ.out.1] at g3
  rw [HQ.out.1, HQ.out.2]
  obtain ⟨k3, a3, b3, R3, M3⟩ := g3
  have HEn := hid (end_calls R3 q1 b3)
  rw [hdo.out] at HEn
  have HR3 := hid R3
  have HM3 := hid M3
  clear HC a3 b3 R3 M3 R0
  go_wp2_with fail
  refine HEn.out.mono ?_
  rintro e w3 ⟨rfl, rfl⟩
  clear HEn
  have HZ := hid (show Below w.heap.size w w3 from HB.out.trans (BW.out.trans ((HM3.out.keeps BW.out.size (fun b hb => hb))) |>.mono HB.out.size))
  cases fin with
  | true =>
    go_wp2_with fail
    go_ret2
    exact ⟨ret_nx (by rw [HNX.out]) (by rw [HNX.out]; rfl), HZ.out⟩
  | false =>
    have HDc := hid (decided_calls HR3.out HE1.out 1 q2 (by decide) f1 f2)
    rw [hdo.out] at HDc
    go_wp2_with fail
    refine HDc.out.mono ?_
    rintro e w4 ⟨⟨t, rfl, ht⟩, g4⟩
    have ht2 := HDT.out t ht
    obtain ⟨k4, a4, b4, R4, M4⟩ := g4
    have HZ4 := hid (show Below w.heap.size w w4 from HZ.out.trans ((M4.keeps (K := w1.heap.size) (by have := BW.out.size; have := HM3.out.size; omega) (fun b hb => hb)).mono HB.out.size))
    have HT2 := hid ht2
    clear HDc ht ht2 a4 b4 R4 M4
    go_wp2_with fail
    go_ret2
    exact ⟨ret_nx (by rw [HNX.out]) (by rw [HNX.out, HT2.out]; rfl), HZ4.out⟩
set_option maxRecDepth 100000 in
set_option maxHeartbeats 1600000 in
theorem next2_calls {w : World} {ta : Option Addr} {tn tc bb bo bn bc : Nat} {L H C f : Nat → Int} (T : Rs w ta tn tc L H C) (B : Sl w (some ⟨bb, bo, none⟩) bn bc f) (hpos : 0 < bn) (hs : bn ≤ 100000) (hE : Ends w) (hm : Cl.may L H C tn = true) (fin : Bool) :
    Calls Tryd.prog 29 #[.int .i64 2, .slice ta tn tc, .slice (some ⟨bb, bo, none⟩) bn bc, .bool fin] w fun e w' => e = .returned (NX (Sc.nx (Cl.of L H C tn) (Cl.may L H C tn) 2 f bn fin)) ∧ Below w.heap.size w w' := by
  have HT := hid T
  have HBy := hid B
  have HE := hid hE
  have HM := hid hm
  have e0 : ((bn : Int) == 0) = false := by rw [beq_eq_false_iff_ne]; omega
  clear T B hE
  go_enter Tryd.func29, Tryd.ntmps29
  go_wp2_with fail
  refine (may_calls ta tn tc L H C _ HT.out).mono ?_
  rintro e w1 ⟨rfl, b1⟩
  rw [hm]
  have T1 := HT.out.below b1
  have B1 := HBy.out.below b1
  have E1 := HE.out.below b1 (Nat.le_refl _)
  have HB := hid b1
  clear HT HBy b1 hm HE
  obtain ⟨D, hD⟩ : ∃ D : Dt, D = ⟨w1.heap.size, w1, ta, tn, tc, L, H, C, bb, bo, bn, bc, f⟩ := ⟨_, rfl⟩
  have R0 := hid (show Rd D (fun b => b < w1.heap.size) (w1.alloc (.cells #[.slice ta tn tc, .slice (some ⟨bb, bo, none⟩) bn bc, .slice none 0 0, .slice none 0 0] 72)) 0 from hD ▸ Rd.new T1 B1 hpos hs)
  have HE1 := hid (show Ends D.W from hD ▸ E1)
  have HM2 := hid (show Cl.may D.L D.H D.C D.tn = true from hD ▸ HM.out)
  have hdo := hid (show D.o = w1.heap.size by rw [hD])
  have hdW := hid (show D.W = w1 by rw [hD])
  obtain ⟨f1, f2, f3, f4⟩ := kind_facts R0.out HM2.out (kind := 2) (by decide)
  have HNX := hid (show Sc.nx (Cl.of L H C tn) (Cl.may L H C tn) 2 f bn fin = (D.sm (D.pc 2).1, fin || D.dc 2) by
    have h := f4 fin
    rw [hD] at h ⊢
    exact h)
  have HDT := hid f3
  clear T1 B1 E1 f3 f4 hD
  have HC := hid (rplain_calls R0.out HE1.out)
  rw [← pc_2, hdo.out] at HC
  obtain ⟨q1, hq1⟩ : ∃ q, (D.pc 2).1 = q := ⟨_, rfl⟩
  obtain ⟨q2, hq2⟩ : ∃ q, (D.pc 2).2 = q := ⟨_, rfl⟩
  have HQ := hid (⟨hq1, hq2⟩ : (D.pc 2).1 = q1 ∧ (D.pc 2).2 = q2)
  rw [hq2] at f1 f2 HDT
  rw [hq1] at HNX
  clear hq1 hq2
  go_wp2_with fail
  refine (way2_calls _ _).mono ?_
  rintro e w2 ⟨rfl, rfl⟩
  obtain ⟨W, hW⟩ : ∃ W, w1.alloc (.cells #[.slice ta tn tc, .slice (some ⟨bb, bo, none⟩) bn bc, .slice none 0 0, .slice none 0 0] 72) = W := ⟨_, rfl⟩
  have BW := hid (show Below w1.heap.size w1 W from hW ▸ (Below.refl _ w1).alloc (Nat.le_refl _) _)
  rw [hW] at R0 HC ⊢
  clear hW
  have hfn := fnSome 53 (some ⟨w1.heap.size, 0, none⟩) W
  go_wp2_with fail
  refine HC.out.mono ?_
  rintro e w3 ⟨rfl, g3⟩
  rw [HQ.out.1] at g3
  rw [HQ.out.1, HQ.out.2]
  obtain ⟨k3, a3, b3, R3, M3⟩ := g3
  have HEn := hid (end_calls R3 q1 b3)
  rw [hdo.out] at HEn
  have HR3 := hid R3
  have HM3 := hid M3
  clear HC a3 b3 R3 M3 R0
  go_wp2_with fail
  refine HEn.out.mono ?_
  rintro e w3 ⟨rfl, rfl⟩
  clear HEn
  have HZ := hid (show Below w.heap.size w w3 from HB.out.trans (BW.out.trans ((HM3.out.keeps BW.out.size (fun b hb => hb))) |>.mono HB.out.size))
  cases fin with
  | true =>
    go_wp2_with fail
    go_ret2
    exact ⟨ret_nx (by rw [HNX.out]) (by rw [HNX.out]; rfl), HZ.out⟩
  | false =>
    have HDc := hid (decided_calls HR3.out HE1.out 2 q2 (by decide) f1 f2)
    rw [hdo.out] at HDc
    go_wp2_with fail
    refine HDc.out.mono ?_
    rintro e w4 ⟨⟨t, rfl, ht⟩, g4⟩
    have ht2 := HDT.out t ht
    obtain ⟨k4, a4, b4, R4, M4⟩ := g4
    have HZ4 := hid (show Below w.heap.size w w4 from HZ.out.trans ((M4.keeps (K := w1.heap.size) (by have := BW.out.size; have := HM3.out.size; omega) (fun b hb => hb)).mono HB.out.size))
    have HT2 := hid ht2
    clear HDc ht ht2 a4 b4 R4 M4
    go_wp2_with fail
    go_ret2
    exact ⟨ret_nx (by rw [HNX.out]) (by rw [HNX.out, HT2.out]; rfl), HZ4.out⟩
set_option maxRecDepth 100000 in
set_option maxHeartbeats 1600000 in
theorem next3_calls {w : World} {ta : Option Addr} {tn tc bb bo bn bc : Nat} {L H C f : Nat → Int} (T : Rs w ta tn tc L H C) (B : Sl w (some ⟨bb, bo, none⟩) bn bc f) (hpos : 0 < bn) (hs : bn ≤ 100000) (hE : Ends w) (hm : Cl.may L H C tn = true) (fin : Bool) :
    Calls Tryd.prog 29 #[.int .i64 3, .slice ta tn tc, .slice (some ⟨bb, bo, none⟩) bn bc, .bool fin] w fun e w' => e = .returned (NX (Sc.nx (Cl.of L H C tn) (Cl.may L H C tn) 3 f bn fin)) ∧ Below w.heap.size w w' := by
  have HT := hid T
  have HBy := hid B
  have HE := hid hE
  have HM := hid hm
  have e0 : ((bn : Int) == 0) = false := by rw [beq_eq_false_iff_ne]; omega
  clear T B hE
  go_enter Tryd.func29, Tryd.ntmps29
  go_wp2_with fail
  refine (may_calls ta tn tc L H C _ HT.out).mono ?_
  rintro e w1 ⟨rfl, b1⟩
  rw [hm]
  have T1 := HT.out.below b1
  have B1 := HBy.out.below b1
  have E1 := HE.out.below b1 (Nat.le_refl _)
  have HB := hid b1
  clear HT HBy b1 hm HE
  obtain ⟨D, hD⟩ : ∃ D : Dt, D = ⟨w1.heap.size, w1, ta, tn, tc, L, H, C, bb, bo, bn, bc, f⟩ := ⟨_, rfl⟩
  have R0 := hid (show Rd D (fun b => b < w1.heap.size) (w1.alloc (.cells #[.slice ta tn tc, .slice (some ⟨bb, bo, none⟩) bn bc, .slice none 0 0, .slice none 0 0] 72)) 0 from hD ▸ Rd.new T1 B1 hpos hs)
  have HE1 := hid (show Ends D.W from hD ▸ E1)
  have HM2 := hid (show Cl.may D.L D.H D.C D.tn = true from hD ▸ HM.out)
  have hdo := hid (show D.o = w1.heap.size by rw [hD])
  have hdW := hid (show D.W = w1 by rw [hD])
  obtain ⟨f1, f2, f3, f4⟩ := kind_facts R0.out HM2.out (kind := 3) (by decide)
  have HNX := hid (show Sc.nx (Cl.of L H C tn) (Cl.may L H C tn) 3 f bn fin = (D.sm (D.pc 3).1, fin || D.dc 3) by
    have h := f4 fin
    rw [hD] at h ⊢
    exact h)
  have HDT := hid f3
  clear T1 B1 E1 f3 f4 hD
  have HC := hid (rwide_calls R0.out HE1.out HM2.out)
  rw [← pc_3, hdo.out] at HC
  obtain ⟨q1, hq1⟩ : ∃ q, (D.pc 3).1 = q := ⟨_, rfl⟩
  obtain ⟨q2, hq2⟩ : ∃ q, (D.pc 3).2 = q := ⟨_, rfl⟩
  have HQ := hid (⟨hq1, hq2⟩ : (D.pc 3).1 = q1 ∧ (D.pc 3).2 = q2)
  rw [hq2] at f1 f2 HDT
  rw [hq1] at HNX
  clear hq1 hq2
  go_wp2_with fail
  refine (way3_calls _ _).mono ?_
  rintro e w2 ⟨rfl, rfl⟩
  obtain ⟨W, hW⟩ : ∃ W, w1.alloc (.cells #[.slice ta tn tc, .slice (some ⟨bb, bo, none⟩) bn bc, .slice none 0 0, .slice none 0 0] 72) = W := ⟨_, rfl⟩
  have BW := hid (show Below w1.heap.size w1 W from hW ▸ (Below.refl _ w1).alloc (Nat.le_refl _) _)
  rw [hW] at R0 HC ⊢
  clear hW
  have hfn := fnSome 54 (some ⟨w1.heap.size, 0, none⟩) W
  go_wp2_with fail
  refine HC.out.mono ?_
  rintro e w3 ⟨rfl, g3⟩
  rw [HQ.out.1] at g3
  rw [HQ.out.1, HQ.out.2]
  obtain ⟨k3, a3, b3, R3, M3⟩ := g3
  have HEn := hid (end_calls R3 q1 b3)
  rw [hdo.out] at HEn
  have HR3 := hid R3
  have HM3 := hid M3
  clear HC a3 b3 R3 M3 R0
  go_wp2_with fail
  refine HEn.out.mono ?_
  rintro e w3 ⟨rfl, rfl⟩
  clear HEn
  have HZ := hid (show Below w.heap.size w w3 from HB.out.trans (BW.out.trans ((HM3.out.keeps BW.out.size (fun b hb => hb))) |>.mono HB.out.size))
  cases fin with
  | true =>
    go_wp2_with fail
    go_ret2
    exact ⟨ret_nx (by rw [HNX.out]) (by rw [HNX.out]; rfl), HZ.out⟩
  | false =>
    have HDc := hid (decided_calls HR3.out HE1.out 3 q2 (by decide) f1 f2)
    rw [hdo.out] at HDc
    go_wp2_with fail
    refine HDc.out.mono ?_
    rintro e w4 ⟨⟨t, rfl, ht⟩, g4⟩
    have ht2 := HDT.out t ht
    obtain ⟨k4, a4, b4, R4, M4⟩ := g4
    have HZ4 := hid (show Below w.heap.size w w4 from HZ.out.trans ((M4.keeps (K := w1.heap.size) (by have := BW.out.size; have := HM3.out.size; omega) (fun b hb => hb)).mono HB.out.size))
    have HT2 := hid ht2
    clear HDc ht ht2 a4 b4 R4 M4
    go_wp2_with fail
    go_ret2
    exact ⟨ret_nx (by rw [HNX.out]) (by rw [HNX.out, HT2.out]; rfl), HZ4.out⟩
set_option maxRecDepth 100000 in
set_option maxHeartbeats 1600000 in
theorem nexto_calls {w : World} {ta : Option Addr} {tn tc bb bo bn bc : Nat} {L H C f : Nat → Int} (T : Rs w ta tn tc L H C) (hpos : 0 < bn) (hs : bn ≤ 100000) (hm : Cl.may L H C tn = true) (kind : Int) (hk : ¬ (kind = 0 ∨ kind = 1 ∨ kind = 2 ∨ kind = 3)) (fin : Bool) :
    Calls Tryd.prog 29 #[.int .i64 kind, .slice ta tn tc, .slice (some ⟨bb, bo, none⟩) bn bc, .bool fin] w fun e w' => e = .returned (NX (Sc.nx (Cl.of L H C tn) (Cl.may L H C tn) kind f bn fin)) ∧ Below w.heap.size w w' := by
  have HN := hid (Sc.nx_odd (cl := Cl.of L H C tn) (may := Cl.may L H C tn) (f := f) (n := bn) (fin := fin) hk)
  have HT := hid T
  have HK := hid hk
  have e0 : ((bn : Int) == 0) = false := by rw [beq_eq_false_iff_ne]; omega
  clear T hk
  go_enter Tryd.func29, Tryd.ntmps29
  go_wp2_with fail
  refine (may_calls ta tn tc L H C _ HT.out).mono ?_
  rintro e w1 ⟨rfl, b1⟩
  rw [hm]
  have HB := hid (b1.alloc b1.size (.cells #[.slice ta tn tc, .slice (some ⟨bb, bo, none⟩) bn bc, .slice none 0 0, .slice none 0 0] 72))
  clear hm b1
  go_wp2_with fail
  refine (wayo_calls _ kind HK.out _).mono ?_
  rintro e w2 ⟨rfl, rfl⟩
  have hfn := fnNil (w1.alloc (.cells #[.slice ta tn tc, .slice (some ⟨bb, bo, none⟩) bn bc, .slice none 0 0, .slice none 0 0] 72))
  go_wp2_with fail
  go_ret2
  exact ⟨by rw [HN.out]; rfl, HB.out⟩
theorem next_calls {w : World} {ta ba : Option Addr} {tn tc bn bc : Nat} {L H C f : Nat → Int} (kind : Int) (T : Rs w ta tn tc L H C) (B : Sl w ba bn bc f) (hs : bn ≤ 100000) (hE : Ends w) (fin : Bool) :
    Calls Tryd.prog 29 #[.int .i64 kind, .slice ta tn tc, .slice ba bn bc, .bool fin] w fun e w' => e = .returned (NX (Sc.nx (Cl.of L H C tn) (Cl.may L H C tn) kind f bn fin)) ∧ Below w.heap.size w w' := by
  rcases Nat.eq_zero_or_pos bn with rfl | hpos
  · exact next_none_calls kind fin
  · cases hm : Cl.may L H C tn with
    | false => rw [← hm]; exact next_may_calls T hpos hs hm kind fin
    | true =>
      obtain ⟨b, off, rfl, _, _⟩ := B.at' hpos
      rw [← hm]
      by_cases hk : kind = 0 ∨ kind = 1 ∨ kind = 2 ∨ kind = 3
      · rcases hk with rfl | rfl | rfl | rfl
        · exact next0_calls T B hpos hs hE hm fin
        · exact next1_calls T B hpos hs hE hm fin
        · exact next2_calls T B hpos hs hE hm fin
        · exact next3_calls T B hpos hs hE hm fin
      · exact nexto_calls T hpos hs hm kind hk fin
end Go.Proofs.YtiheagkgpbkkfaaDoor
