/-
  What the chapter says of rows and specials, in plain mathematics: their tokens, the merges of all cuts, the specials by rising names; each is one. No program is named here.
-/
import Derived.Test.YtfgbpjajkmfkoaaVcNm
import Derived.Sort.Walk0
namespace Go.Proofs.Ytfgbpjajkmfkoaa
open Go.RowKit
namespace Vc
/-- How many tokens rows and specials have. -/
structure Sz (rs sp : Sps) (N : Nat) : Prop where
  r : ∀ i, i < rs.length → kat rs i + 1 ≤ (N : Int)
  s : ∀ i, i < sp.length → kat sp i + 1 ≤ (N : Int)
  top : N = 0 ∨ (∃ i, i < rs.length ∧ kat rs i + 1 = (N : Int)) ∨ (∃ i, i < sp.length ∧ kat sp i + 1 = (N : Int))
theorem Sz.le {rs sp : Sps} {N N' : Nat} (h : Sz rs sp N) (k : Sz rs sp N') : N ≤ N' := by
  rcases h.top with rfl | ⟨i, hi, he⟩ | ⟨i, hi, he⟩
  · omega
  · have := k.r i hi; omega
  · have := k.s i hi; omega
theorem Sz.one {rs sp : Sps} {N N' : Nat} (h : Sz rs sp N) (k : Sz rs sp N') : N = N' := Nat.le_antisymm (h.le k) (k.le h)
/-- Each number may be, and no two rows have one. -/
structure Ranks (rs sp : Sps) : Prop where
  r : ∀ i, i < rs.length → Num (kat rs i)
  s : ∀ i, i < sp.length → Num (kat sp i)
  ap : ∀ i j, i < j → j < rs.length → kat rs i ≠ kat rs j
/-- The tokens of rows and specials. -/
structure TokIs (rs sp : Sps) (ts : Toks) : Prop where
  sz : Sz rs sp ts.length
  there : ∀ i, i < rs.length → at_ ts (kat rs i).toNat = tat rs i
  none : ∀ k, k < ts.length → (∀ i, i < rs.length → kat rs i ≠ (k : Int)) → at_ ts k = ⟨#[]⟩
theorem TokIs.one {rs sp : Sps} {ts ts' : Toks} (h : TokIs rs sp ts) (k : TokIs rs sp ts') : ts = ts' := by
  have hl := h.sz.one k.sz
  refine at_ext hl (fun i hi => ?_)
  by_cases hx : ∃ q, q < rs.length ∧ kat rs q = (i : Int)
  · obtain ⟨q, hq, he⟩ := hx
    have h1 := h.there q hq
    have h2 := k.there q hq
    rw [he, Int.toNat_natCast] at h1 h2
    rw [h1, h2]
  · have hx' : ∀ q, q < rs.length → kat rs q ≠ (i : Int) := fun q hq he => hx ⟨q, hq, he⟩
    rw [h.none i hi hx', k.none i (by omega) hx']
theorem TokIs.len {rs sp : Sps} {ts : Toks} (h : TokIs rs sp ts) (hR : Ranks rs sp) : ts.length ≤ 4096 := by
  rcases h.sz.top with h1 | ⟨i, hi, he⟩ | ⟨i, hi, he⟩
  · omega
  · have := (hR.r i hi).2; omega
  · have := (hR.s i hi).2; omega
/-- A token is a row's, or empty. -/
theorem TokIs.mem {rs sp : Sps} {ts : Toks} (h : TokIs rs sp ts) {k : Nat} (hk : k < ts.length) : at_ ts k = ⟨#[]⟩ ∨ ∃ i, i < rs.length ∧ kat rs i = (k : Int) ∧ at_ ts k = tat rs i := by
  by_cases hx : ∃ q, q < rs.length ∧ kat rs q = (k : Int)
  · obtain ⟨q, hq, he⟩ := hx
    have h1 := h.there q hq
    rw [he, Int.toNat_natCast] at h1
    exact .inr ⟨q, hq, he, h1⟩
  · exact .inl (h.none k hk (fun q hq he => hx ⟨q, hq, he⟩))

/-! ### The merges of all cuts -/
def num (ts : Toks) (s : ByteArray) : Option Nat := lastOf ts ts.length s
def cutOf (o : Nat) : Option Nat → Option Nat → List Mg4
  | some l, some r => [((l : Int), (r : Int), (o : Int), (o : Int))]
  | _, _ => []
def cutAt (ts : Toks) (o k : Nat) : List Mg4 := cutOf o (num ts ((at_ ts o).extract 0 k)) (num ts ((at_ ts o).extract k (at_ ts o).size))
def cutsTo (ts : Toks) (o : Nat) : Nat → List Mg4
  | 0 => []
  | k + 1 => cutsTo ts o k ++ cutAt ts o (k + 1)
def cutsL (ts : Toks) : Nat → List Mg4
  | 0 => []
  | o + 1 => cutsL ts o ++ cutsTo ts o ((at_ ts o).size - 1)
theorem cutOf_len (o : Nat) (a b : Option Nat) : (cutOf o a b).length ≤ 1 := by cases a <;> cases b <;> simp [cutOf]
theorem cutsTo_len (ts : Toks) (o : Nat) : ∀ k, (cutsTo ts o k).length ≤ k
  | 0 => by simp [cutsTo]
  | k + 1 => by
    have h := cutsTo_len ts o k
    have h2 := cutOf_len o (num ts ((at_ ts o).extract 0 (k + 1))) (num ts ((at_ ts o).extract (k + 1) (at_ ts o).size))
    rw [cutsTo, List.length_append]
    unfold cutAt
    omega
theorem cutsL_len {ts : Toks} (hz : ∀ i, i < ts.length → (at_ ts i).size ≤ 64) : ∀ o, o ≤ ts.length → (cutsL ts o).length ≤ o * 64
  | 0, _ => by simp [cutsL]
  | o + 1, h => by
    have h1 := cutsL_len hz o (by omega)
    have h2 := cutsTo_len ts o ((at_ ts o).size - 1)
    have h3 := hz o (by omega)
    rw [cutsL, List.length_append]
    omega
theorem cutAt_mem {ts : Toks} {o k : Nat} {m : Mg4} (h : m ∈ cutAt ts o k) : ∃ l r : Nat, num ts ((at_ ts o).extract 0 k) = some l ∧ num ts ((at_ ts o).extract k (at_ ts o).size) = some r ∧ m = ((l : Int), (r : Int), (o : Int), (o : Int)) := by
  unfold cutAt at h
  cases h1 : num ts ((at_ ts o).extract 0 k) with
  | none => rw [h1] at h; simp [cutOf] at h
  | some l =>
    cases h2 : num ts ((at_ ts o).extract k (at_ ts o).size) with
    | none => rw [h1, h2] at h; simp [cutOf] at h
    | some r => rw [h1, h2] at h; simp [cutOf] at h; exact ⟨l, r, rfl, rfl, h⟩
theorem cutsTo_mem {ts : Toks} {o : Nat} {m : Mg4} : ∀ {k : Nat}, m ∈ cutsTo ts o k → ∃ q, 0 < q ∧ q ≤ k ∧ m ∈ cutAt ts o q
  | 0, h => by simp [cutsTo] at h
  | k + 1, h => by
    rw [cutsTo, List.mem_append] at h
    rcases h with h | h
    · obtain ⟨q, h1, h2, h3⟩ := cutsTo_mem h
      exact ⟨q, h1, by omega, h3⟩
    · exact ⟨k + 1, by omega, Nat.le_refl _, h⟩
theorem cutsL_mem {ts : Toks} {m : Mg4} : ∀ {n : Nat}, m ∈ cutsL ts n → ∃ o q, o < n ∧ 0 < q ∧ q < (at_ ts o).size ∧ m ∈ cutAt ts o q
  | 0, h => by simp [cutsL] at h
  | n + 1, h => by
    rw [cutsL, List.mem_append] at h
    rcases h with h | h
    · obtain ⟨o, q, h1, h2⟩ := cutsL_mem h
      exact ⟨o, q, by omega, h2⟩
    · obtain ⟨q, h1, h2, h3⟩ := cutsTo_mem h
      exact ⟨n, q, by omega, h1, by omega, h3⟩
/-- Merges of all cuts, rising. -/
structure CutsIs (ts : Toks) (ms : List Mg4) : Prop where
  perm : ms.Perm (cutsL ts ts.length)
  up : ms.Pairwise (fun a b => ¬ Ahead b a)
theorem CutsIs.one {ts : Toks} {ms ms' : List Mg4} (h : CutsIs ts ms) (k : CutsIs ts ms') : ms = ms' := by
  have hp := h.perm.trans k.perm.symm
  refine List.Perm.eq_of_pairwise (le := fun a b => ¬ Ahead b a) (fun a b ha hb h1 h2 => ?_) h.up k.up hp
  obtain ⟨o1, q1, _, _, _, m1⟩ := cutsL_mem (h.perm.mem_iff.1 ha)
  obtain ⟨o2, q2, _, _, _, m2⟩ := cutsL_mem (k.perm.mem_iff.1 hb)
  obtain ⟨l1, r1, _, _, e1⟩ := cutAt_mem m1
  obtain ⟨l2, r2, _, _, e2⟩ := cutAt_mem m2
  subst e1 e2
  rcases Ahead.total ((l1 : Int), (r1 : Int), (o1 : Int), (o1 : Int)) ((l2 : Int), (r2 : Int), (o2 : Int), (o2 : Int)) with h | h | ⟨e1, e2, e3⟩
  · exact absurd h h2
  · exact absurd h h1
  · simp only at e1 e2 e3
    rw [e1, e2, e3]

/-! ### The specials by rising names -/
structure SpIs (sp sp' : Sps) : Prop where
  perm : sp'.Perm sp
  up : sp'.Pairwise (fun a b => ¬ NLt b.1 a.1)
theorem nlt_irrefl (a : ByteArray) : ¬ NLt a a := List.lt_irrefl _
theorem nlt_total {a b : ByteArray} (h : ¬ NLt a b) (k : ¬ NLt b a) : a = b := by
  apply by_inj
  exact List.le_antisymm (List.not_lt.1 k) (List.not_lt.1 h)
theorem mayS_pw {ts : Toks} {sp : Sps} (h : MayS ts sp) : sp.Pairwise (fun a b => NLt a.1 b.1) := by
  rw [List.pairwise_iff_getElem]
  intro i j hi hj hij
  have := (h.both i j hij hj).1
  simpa [tat, hi, hj] using this
theorem SpIs.one {ts : Toks} {sp a b : Sps} (h : SpIs sp a) (k : SpIs sp b) (hm : MayS ts a) : a = b := by
  have hp := h.perm.trans k.perm.symm
  have hn : (a.map (·.1)).Nodup := by
    unfold List.Nodup
    rw [List.pairwise_map]
    exact (mayS_pw hm).imp (fun h e => by rw [e] at h; exact nlt_irrefl _ h)
  have hinj : ∀ x ∈ a, ∀ y ∈ a, x.1 = y.1 → x = y := by
    have hq := mayS_pw hm
    intro x hx y hy he
    obtain ⟨i, hi, rfl⟩ := List.mem_iff_getElem.1 hx
    obtain ⟨j, hj, rfl⟩ := List.mem_iff_getElem.1 hy
    rw [List.pairwise_iff_getElem] at hq
    rcases Nat.lt_trichotomy i j with h1 | h1 | h1
    · have := hq i j hi hj h1
      rw [he] at this
      exact absurd this (nlt_irrefl _)
    · subst h1; rfl
    · have := hq j i hj hi h1
      rw [he] at this
      exact absurd this (nlt_irrefl _)
  refine List.Perm.eq_of_pairwise (le := fun x y => ¬ NLt y.1 x.1) (fun x y hx hy h1 h2 => ?_) h.up k.up hp
  exact hinj x hx y (hp.mem_iff.2 hy) (nlt_total h2 h1)

/-! ### The vocabulary of rows -/
structure FromIs (rs sp : Sps) (ts : Toks) (ms : List Mg4) (sp' : Sps) : Prop where
  ranks : Ranks rs sp
  tok : TokIs rs sp ts
  cuts : CutsIs ts ms
  sps : SpIs sp sp'
  may : May ts ms sp'
theorem FromIs.one {rs sp : Sps} {ts ts2 : Toks} {ms ms2 : List Mg4} {sp1 sp2 : Sps} (h : FromIs rs sp ts ms sp1) (k : FromIs rs sp ts2 ms2 sp2) : ts = ts2 ∧ ms = ms2 ∧ sp1 = sp2 := by
  obtain rfl := h.tok.one k.tok
  exact ⟨rfl, h.cuts.one k.cuts, h.sps.one k.sps h.may.S⟩
/-- Rows and specials that are no vocabulary. -/
def NoFrom (rs sp : Sps) : Prop := ¬ ∃ ts ms sp', FromIs rs sp ts ms sp'
theorem noFrom {rs sp : Sps} {ts : Toks} {ms : List Mg4} {sp' : Sps} (h1 : TokIs rs sp ts) (h2 : CutsIs ts ms) (h3 : SpIs sp sp') (h : ¬ May ts ms sp') : NoFrom rs sp := by
  rintro ⟨ts2, ms2, sp2, k⟩
  obtain rfl := h1.one k.tok
  obtain rfl := h2.one k.cuts
  obtain rfl := k.sps.one h3 k.may.S
  exact h k.may
theorem noFrom_ranks {rs sp : Sps} (h : ¬ Ranks rs sp) : NoFrom rs sp := fun ⟨_, _, _, k⟩ => h k.ranks
theorem noFrom_tok {rs sp : Sps} {ts : Toks} (h1 : TokIs rs sp ts) (h : ¬ MayT ts) : NoFrom rs sp := by
  rintro ⟨ts2, ms2, sp2, k⟩
  obtain rfl := h1.one k.tok
  exact h k.may.T
end Vc
end Go.Proofs.Ytfgbpjajkmfkoaa
