/-
  The number of a byte alone; dead tokens; the chapter's examples reckoned. No program is named here.
-/
import Derived.Test.YtcjakjmhghoilaaEnFx
import Derived.Test.YtcjakjmhghoilaaLotM
namespace Go.Proofs.Ytcjakjmhghoilaa
open Go.RowKit
namespace Vc
/-- The number of a byte alone, or -1. -/
def bt (ts : Toks) (b : UInt8) : Int := match num ts (mk [b]) with | some k => (k : Int) | none => -1
theorem bt_num {ts : Toks} (h : MayT ts) (b : UInt8) : ∃ i : Nat, i < ts.length ∧ at_ ts i = mk [b] ∧ bt ts b = i := by
  obtain ⟨i, hi, e⟩ := h.all b.toNat (UInt8.toNat_lt b)
  have e2 : one b.toNat = mk [b] := by unfold one; rw [UInt8.ofNat_toNat]
  rw [e2] at e
  have hz : (at_ ts i).size ≠ 0 := by rw [e, mk_size]; exact Nat.one_ne_zero
  have hn := num_at h hi hz
  rw [e] at hn
  exact ⟨i, hi, e, by unfold bt; rw [hn]⟩
theorem bytN_of {ts : Toks} (h : MayT ts) : Pr.BytN ts (bt ts) := fun b => by
  obtain ⟨i, hi, e, hb⟩ := bt_num h b
  rw [hb]
  have ht : tok ts (i : Int) = mk [b] := by unfold tok; rw [Int.toNat_natCast, e]
  exact ⟨⟨by omega, by omega, by rw [Int.toNat_natCast, e, mk_size]; exact Nat.one_ne_zero⟩, by rw [ht, by_mk]⟩
end Vc
namespace Pr
/-- Is the token at a place dead? -/
def deadB (ts : Vc.Toks) (ms : List Mg4) (i : Nat) : Bool := decide ((at_ ts i).size ≠ 0) && decide (enc ms (Vc.bt ts) (by_ (at_ ts i)) ≠ [(i : Int)])
theorem deadB_iff {ts : Vc.Toks} {ms : List Mg4} {i : Nat} : deadB ts ms i = true ↔ (at_ ts i).size ≠ 0 ∧ enc ms (Vc.bt ts) (by_ (at_ ts i)) ≠ [(i : Int)] := by
  unfold deadB
  rw [Bool.and_eq_true, decide_eq_true_iff, decide_eq_true_iff]
/-- The dead tokens among the first j. -/
def dead (ts : Vc.Toks) (ms : List Mg4) : Nat → Row
  | 0 => []
  | j + 1 => dead ts ms j ++ (if deadB ts ms j = true then [(j : Int)] else [])
theorem dead_len (ts : Vc.Toks) (ms : List Mg4) : ∀ j, (dead ts ms j).length ≤ j
  | 0 => Nat.le_refl _
  | j + 1 => by
    have := dead_len ts ms j
    unfold dead
    rw [List.length_append]
    split
    · rw [List.length_singleton]; omega
    · rw [List.length_nil]; omega
theorem dead_mem {ts : Vc.Toks} {ms : List Mg4} {x : Int} : ∀ {j : Nat}, x ∈ dead ts ms j → ∃ i, i < j ∧ x = (i : Int) ∧ deadB ts ms i = true
  | 0, h => by cases h
  | j + 1, h => by
    unfold dead at h
    rcases List.mem_append.1 h with g | g
    · obtain ⟨i, h1, h2⟩ := dead_mem g
      exact ⟨i, by omega, h2⟩
    · by_cases hd : deadB ts ms j = true
      · rw [if_pos hd] at g
        exact ⟨j, by omega, List.mem_singleton.1 g, hd⟩
      · rw [if_neg hd] at g; cases g
/-- No bytes come to a dead token. -/
theorem enc_alive {ts : Vc.Toks} {ms : List Mg4} (hM : Vc.MayM ts ms) (hT : Vc.MayT ts) {s : List UInt8} {x : Int} (h : x ∈ enc ms (Vc.bt ts) s) {j : Nat} : x ∉ dead ts ms j := fun hd => by
  obtain ⟨i, _, rfl, hb⟩ := dead_mem hd
  have h1 := enc_own hM (Vc.bytN_of hT) h
  unfold Vc.tok at h1
  rw [Int.toNat_natCast] at h1
  exact (deadB_iff.1 hb).2 h1
end Pr
namespace Vc
theorem ex_bt {xs : Toks} (h : Ex xs) (b : UInt8) : bt (exT xs) b = b.toNat := by
  obtain ⟨i, hi, e, hb⟩ := bt_num (ex_mayT h) b
  have hlo : at_ (exT xs) b.toNat = one b.toNat := exT_lo (UInt8.toNat_lt b)
  have e2 : one b.toNat = mk [b] := by unfold one; rw [UInt8.ofNat_toNat]
  have := (ex_mayT h).apart i b.toNat hi (by rw [exT_len]; have := UInt8.toNat_lt b; omega) (by rw [e, mk_size]; exact Nat.one_ne_zero) (by rw [e, hlo, e2])
  rw [hb, this]
theorem ex_enc {xs : Toks} (h : Ex xs) (ms : List Mg4) (s : List UInt8) : Pr.enc ms (bt (exT xs)) s = Pr.run ms (s.map fun b => (b.toNat : Int)) := by
  unfold Pr.enc
  rw [show bt (exT xs) = fun b => (b.toNat : Int) from funext (ex_bt h)]
theorem ex3_mayM : MayM (exT ex3) exM3 where
  len := by decide
  ok := fun i hi => by
    have : i = 0 ∨ i = 1 ∨ i = 2 ∨ i = 3 := by simp [exM3] at hi; omega
    rcases this with rfl | rfl | rfl | rfl
    · exact ⟨ex_is ex3_ex (i := 97) (by decide), ex_is ex3_ex (i := 98) (by decide), ex_is ex3_ex (i := 256) (by decide), by decide +kernel, by decide, by decide⟩
    · exact ⟨ex_is ex3_ex (i := 98) (by decide), ex_is ex3_ex (i := 99) (by decide), ex_is ex3_ex (i := 257) (by decide), by decide +kernel, by decide, by decide⟩
    · exact ⟨ex_is ex3_ex (i := 97) (by decide), ex_is ex3_ex (i := 257) (by decide), ex_is ex3_ex (i := 258) (by decide), by decide +kernel, by decide, by decide⟩
    · exact ⟨ex_is ex3_ex (i := 256) (by decide), ex_is ex3_ex (i := 99) (by decide), ex_is ex3_ex (i := 258) (by decide), by decide +kernel, by decide, by decide⟩
  both := fun i j hij hj => by
    have h4 : j < 4 := hj
    have : (i = 0 ∧ (j = 1 ∨ j = 2 ∨ j = 3)) ∨ (i = 1 ∧ (j = 2 ∨ j = 3)) ∨ (i = 2 ∧ j = 3) := by omega
    rcases this with ⟨rfl, rfl | rfl | rfl⟩ | ⟨rfl, rfl | rfl⟩ | ⟨rfl, rfl⟩ <;> simp [mat, exM3, Both, Ahead]
theorem ex4_mayM : MayM (exT ex4) exM4 where
  len := by decide
  ok := fun i hi => by
    have : i = 0 ∨ i = 1 ∨ i = 2 ∨ i = 3 := by simp [exM4] at hi; omega
    rcases this with rfl | rfl | rfl | rfl
    · exact ⟨ex_is ex4_ex (i := 98) (by decide), ex_is ex4_ex (i := 99) (by decide), ex_is ex4_ex (i := 256) (by decide), by decide +kernel, by decide, by decide⟩
    · exact ⟨ex_is ex4_ex (i := 97) (by decide), ex_is ex4_ex (i := 98) (by decide), ex_is ex4_ex (i := 257) (by decide), by decide +kernel, by decide, by decide⟩
    · exact ⟨ex_is ex4_ex (i := 99) (by decide), ex_is ex4_ex (i := 100) (by decide), ex_is ex4_ex (i := 258) (by decide), by decide +kernel, by decide, by decide⟩
    · exact ⟨ex_is ex4_ex (i := 257) (by decide), ex_is ex4_ex (i := 258) (by decide), ex_is ex4_ex (i := 259) (by decide), by decide +kernel, by decide, by decide⟩
  both := fun i j hij hj => by
    have h4 : j < 4 := hj
    have : (i = 0 ∧ (j = 1 ∨ j = 2 ∨ j = 3)) ∨ (i = 1 ∧ (j = 2 ∨ j = 3)) ∨ (i = 2 ∧ j = 3) := by omega
    rcases this with ⟨rfl, rfl | rfl | rfl⟩ | ⟨rfl, rfl | rfl⟩ | ⟨rfl, rfl⟩ <;> simp [mat, exM4, Both, Ahead]
theorem ex3_from : FromIs (lR ex3 3) [] (exT ex3) exM3 [] :=
  ex_from ex3_ex ex3_cuts (by unfold exM3 Ahead; simp) ex3_mayM (fun i hi => by
    have : i = 0 ∨ i = 1 ∨ i = 2 := by simp [ex3] at hi; omega
    rcases this with rfl | rfl | rfl
    · exact ⟨0, by decide, rfl⟩
    · exact ⟨1, by decide, rfl⟩
    · exact ⟨2, by decide, rfl⟩) (by decide)
theorem ex4_from : FromIs (lR ex4 4) [] (exT ex4) exM4 [] :=
  ex_from ex4_ex ex4_cuts (by unfold exM4 Ahead; simp) ex4_mayM (fun i hi => by
    have : i = 0 ∨ i = 1 ∨ i = 2 ∨ i = 3 := by simp [ex4] at hi; omega
    rcases this with rfl | rfl | rfl | rfl
    · exact ⟨0, by decide, rfl⟩
    · exact ⟨1, by decide, rfl⟩
    · exact ⟨2, by decide, rfl⟩
    · exact ⟨3, by decide, rfl⟩) (by decide)
theorem ex3_enc : Pr.enc exM3 (bt (exT ex3)) [97, 98, 99] = [258] := by rw [ex_enc ex3_ex]; decide
theorem ex4_enc : Pr.enc exM4 (bt (exT ex4)) [97, 98, 99, 100] = [97, 256, 100] := by rw [ex_enc ex4_ex]; decide
theorem ex4_deadLo {i : Nat} (h : i < 256) : Pr.deadB (exT ex4) exM4 i = false := by
  cases hd : Pr.deadB (exT ex4) exM4 i with
  | false => rfl
  | true =>
    refine absurd ?_ (Pr.deadB_iff.1 hd).2
    rw [exT_lo h, ex_enc ex4_ex]
    have e : by_ (one i) = [UInt8.ofNat i] := by unfold one; rw [by_mk]
    rw [e]
    have e2 : (UInt8.ofNat i).toNat = i := by rw [UInt8.toNat_ofNat']; omega
    rw [List.map_cons, e2]
    exact Pr.run_stop rfl
theorem ex4_deadHi : ∀ i, i < 4 → Pr.deadB (exT ex4) exM4 (256 + i) = decide (i = 3) := fun i hi => by
  have hb : Pr.deadB (exT ex4) exM4 (256 + i) = (decide ((at_ ex4 i).size ≠ 0) && decide (Pr.run exM4 ((by_ (at_ ex4 i)).map fun b => (b.toNat : Int)) ≠ [((256 + i : Nat) : Int)])) := by
    unfold Pr.deadB
    rw [exT_hi, ex_enc ex4_ex]
  rw [hb]
  have : i = 0 ∨ i = 1 ∨ i = 2 ∨ i = 3 := by omega
  rcases this with rfl | rfl | rfl | rfl <;> decide
theorem ex4_dead : Pr.dead (exT ex4) exM4 (exT ex4).length = [259] := by
  have h0 : ∀ j, j ≤ 256 → Pr.dead (exT ex4) exM4 j = [] := by
    intro j
    induction j with
    | zero => intro _; rfl
    | succ j ih =>
      intro h
      unfold Pr.dead
      rw [ih (by omega), ex4_deadLo (by omega)]
      rfl
  have e0 := ex4_deadHi 0 (by omega)
  have e1 := ex4_deadHi 1 (by omega)
  have e2 := ex4_deadHi 2 (by omega)
  have e3 := ex4_deadHi 3 (by omega)
  rw [exT_len]
  show Pr.dead (exT ex4) exM4 260 = _
  unfold Pr.dead
  unfold Pr.dead
  unfold Pr.dead
  unfold Pr.dead
  rw [h0 256 (Nat.le_refl _), e0, e1, e2, e3]
  rfl
end Vc
end Go.Proofs.Ytcjakjmhghoilaa
