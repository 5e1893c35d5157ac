/-
  Several texts in one: EnMath, EnSame, HpMath, EnAg, EnLk.
-/
import Derived.Test.YtcjakjmhghoilaaLotV
import Derived.Test.YtcjakjmhghoilaaLotG
/-
  Bytes as tokens, in plain mathematics: rows that are cut where one of their end's tokens ends run as if each part stood alone. No program is named here.
-/
namespace Go.Proofs.Ytcjakjmhghoilaa
open Go.RowKit
namespace Pr
/-- How many bytes a row tells. -/
def wid (ts : Vc.Toks) (xs : Row) : Nat := (cat ts xs).length
theorem cat_append (ts : Vc.Toks) (xs ys : Row) : cat ts (xs ++ ys) = cat ts xs ++ cat ts ys := by unfold cat; rw [List.flatMap_append]
theorem cat_cons (ts : Vc.Toks) (x : Int) (ys : Row) : cat ts (x :: ys) = by_ (Vc.tok ts x) ++ cat ts ys := by unfold cat; rw [List.flatMap_cons]
theorem cat_nil (ts : Vc.Toks) : cat ts [] = [] := rfl
theorem wid_append (ts : Vc.Toks) (xs ys : Row) : wid ts (xs ++ ys) = wid ts xs + wid ts ys := by unfold wid; rw [cat_append, List.length_append]
theorem wid_cons (ts : Vc.Toks) (x : Int) (ys : Row) : wid ts (x :: ys) = (Vc.tok ts x).size + wid ts ys := by unfold wid; rw [cat_cons, List.length_append, by_length]
theorem is_pos {ts : Vc.Toks} {x : Int} (h : Vc.Is ts x) : 0 < (Vc.tok ts x).size := Nat.pos_of_ne_zero h.2.2
theorem toks_append {ts : Vc.Toks} {xs ys : Row} : Toks ts (xs ++ ys) ↔ Toks ts xs ∧ Toks ts ys := by
  unfold Toks
  simp only [List.mem_append]
  exact ⟨fun h => ⟨fun x hx => h x (.inl hx), fun x hx => h x (.inr hx)⟩, fun h x hx => hx.elim (h.1 x) (h.2 x)⟩
theorem toks_cons {ts : Vc.Toks} {x : Int} {ys : Row} : Toks ts (x :: ys) ↔ Vc.Is ts x ∧ Toks ts ys := by
  unfold Toks
  simp only [List.mem_cons]
  exact ⟨fun h => ⟨h x (.inl rfl), fun y hy => h y (.inr hy)⟩, fun h y hy => hy.elim (fun e => by rw [e]; exact h.1) (h.2 y)⟩
/-- A row of tokens is at least as wide as it is long. -/
theorem len_wid {ts : Vc.Toks} : ∀ {xs : Row}, Toks ts xs → xs.length ≤ wid ts xs
  | [], _ => Nat.zero_le _
  | x :: xs, h => by
    obtain ⟨h1, h2⟩ := toks_cons.1 h
    have := len_wid h2
    have := is_pos h1
    rw [wid_cons, List.length_cons]
    omega
/-- Two ways to part one row at one width are one. -/
theorem part_one {ts : Vc.Toks} {A B C D : Row} (hT : Toks ts (A ++ B)) (e : A ++ B = C ++ D) (hw : wid ts A = wid ts C) : A = C ∧ B = D := by
  rcases List.append_eq_append_iff.1 e with ⟨M, h1, h2⟩ | ⟨M, h1, h2⟩
  · rw [h1, wid_append] at hw
    have hM : Toks ts M := by rw [h2] at hT; exact (toks_append.1 (toks_append.1 hT).2).1
    have := len_wid hM
    have : M = [] := List.eq_nil_of_length_eq_zero (by omega)
    subst this
    exact ⟨by rw [h1, List.append_nil], by rw [h2, List.nil_append]⟩
  · rw [h1, wid_append] at hw
    have hM : Toks ts M := by rw [h1] at hT; exact (toks_append.1 (toks_append.1 hT).1).2
    have := len_wid hM
    have : M = [] := List.eq_nil_of_length_eq_zero (by omega)
    subst this
    exact ⟨by rw [h1, List.append_nil], by rw [h2, List.nil_append]⟩
/-- What a step does to a row. -/
theorem step_how {ts : Vc.Toks} {ms : List Mg4} (hM : Vc.MayM ts ms) {xs ys : Row} (h : step ms xs = some ys) : ∃ (P R : Row) (l r o : Int) (k : Nat), xs = P ++ l :: r :: R ∧ ys = P ++ o :: R ∧ best ms xs = some (P.length, k) ∧ o = (mat ms k).2.2.1 ∧ (Vc.tok ts o).size = (Vc.tok ts l).size + (Vc.tok ts r).size ∧ by_ (Vc.tok ts o) = by_ (Vc.tok ts l) ++ by_ (Vc.tok ts r) := by
  unfold step at h
  cases hb : best ms xs with
  | none => rw [hb] at h; cases h
  | some q =>
    obtain ⟨p, k⟩ := q
    rw [hb] at h
    obtain rfl := Option.some.inj h
    have hp := (best_lt hb).1
    obtain ⟨hk, h1, h2⟩ := fnd_some (bst_some hb).fd
    obtain ⟨_, _, o1, o2, _, _⟩ := hM.ok k hk
    rw [h1, h2] at o2
    refine ⟨xs.take p, xs.drop (p + 2), it xs p, it xs (p + 1), (mat ms k).2.2.1, k, split_at hp, rfl, ?_, rfl, ?_, ?_⟩
    · rw [List.length_take, Nat.min_eq_left (by omega)]
    · rw [o2, ByteArray.size_append]
    · rw [o2, by_append]
/-- Where a row behind a step can be parted, the row ahead of it could. -/
theorem step_back {ts : Vc.Toks} {ms : List Mg4} (hM : Vc.MayM ts ms) {xs ys C D : Row} (h : step ms xs = some ys) (e : ys = C ++ D) : ∃ A B, xs = A ++ B ∧ wid ts A = wid ts C := by
  obtain ⟨P, R, l, r, o, k, rfl, hy, _, _, hs, _⟩ := step_how hM h
  rw [hy] at e
  rcases List.append_eq_append_iff.1 e with ⟨M, h1, h2⟩ | ⟨M, h1, h2⟩
  · cases M with
    | nil => exact ⟨P, l :: r :: R, rfl, by rw [h1, List.append_nil]⟩
    | cons y M =>
      obtain ⟨rfl, rfl⟩ := List.cons.inj h2
      refine ⟨P ++ l :: r :: M, D, by simp, ?_⟩
      rw [h1, wid_append, wid_append, wid_cons, wid_cons, wid_cons]
      omega
  · exact ⟨C, M ++ l :: r :: R, by rw [h1, List.append_assoc], rfl⟩
theorem run_back {ts : Vc.Toks} {ms : List Mg4} (hM : Vc.MayM ts ms) (xs : Row) : ∀ C D, run ms xs = C ++ D → ∃ A B, xs = A ++ B ∧ wid ts A = wid ts C :=
  run_ind (ms := ms) (P := fun xs r => ∀ C D, r = C ++ D → ∃ A B, xs = A ++ B ∧ wid ts A = wid ts C) (fun xs _ C D e => ⟨C, D, e, rfl⟩) (fun xs ys h k C D e => by
    obtain ⟨A, B, h1, h2⟩ := k C D e
    obtain ⟨A', B', h3, h4⟩ := step_back hM h h1
    exact ⟨A', B', h3, h4.trans h2⟩) _ xs (Nat.le_refl _)
theorem it_app_left {A B : Row} {i : Nat} (h : i < A.length) : it (A ++ B) i = it A i := it_left h
/-- A step of two rows together: none, or of the one, or of the other one, or across the cut. -/
theorem cut_step {ts : Vc.Toks} {ms : List Mg4} (hM : Vc.MayM ts ms) (A B : Row) :
    (step ms (A ++ B) = none ∧ step ms A = none ∧ step ms B = none) ∨ (∃ A', step ms A = some A' ∧ step ms (A ++ B) = some (A' ++ B)) ∨ (∃ B', step ms B = some B' ∧ step ms (A ++ B) = some (A ++ B')) ∨
    (∃ (P R : Row) (l r o : Int), A = P ++ [l] ∧ B = r :: R ∧ step ms (A ++ B) = some (P ++ o :: R) ∧ (Vc.tok ts o).size = (Vc.tok ts l).size + (Vc.tok ts r).size) := by
  cases hs : step ms (A ++ B) with
  | none =>
    have hb : best ms (A ++ B) = none := by
      cases hb : best ms (A ++ B) with
      | none => rfl
      | some q => obtain ⟨p, k⟩ := q; rw [step_some hb] at hs; cases hs
    have g := bst_gone hb
    rw [List.length_append] at g
    refine .inl ⟨rfl, step_none (bst_nil fun i hi => ?_), step_none (bst_nil fun i hi => ?_)⟩
    · have := g i (by omega)
      rwa [it_left (by omega), it_left (by omega)] at this
    · have := g (A.length + i) (by omega)
      rwa [it_right, Nat.add_assoc, it_right] at this
  | some ys =>
    obtain ⟨P, R, l, r, o, k, hx, rfl, hb, ho, hsz, _⟩ := step_how hM hs
    have BI := bst_some hb
    have hp := (best_lt hb).1
    rw [List.length_append] at hp
    rcases List.append_eq_append_iff.1 hx with ⟨M, h1, h2⟩ | ⟨M, h1, h2⟩
    · -- the cut lies ahead of the pair, or it is the pair's own place
      right; right; left
      have hl : A.length + M.length = P.length := by rw [h1, List.length_append]
      have hBl : B.length = M.length + (2 + R.length) := by rw [h2, List.length_append]; simp only [List.length_cons]; omega
      have hbB : best ms B = some (M.length, k) := bst_of ⟨by omega, by have := BI.fd; rwa [← hl, it_right, Nat.add_assoc, it_right] at this, fun i k' hi hf => by
        have := BI.all (A.length + i) k' (by rw [List.length_append]; omega) (by rw [it_right, Nat.add_assoc, it_right]; exact hf)
        exact ⟨this.1, fun h => this.2 (by omega)⟩⟩
      refine ⟨M ++ o :: R, ?_, by rw [h1, List.append_assoc]⟩
      rw [step_some hbB, ← ho, h2]
      congr 1
      unfold jn
      rw [List.take_left, show M.length + 2 = (M ++ [l, r]).length from by simp, show M ++ l :: r :: R = (M ++ [l, r]) ++ R from by simp, List.drop_left]
    · match M, h2 with
      | [], h2 =>
        right; right; left
        rw [List.nil_append] at h2
        rw [List.append_nil] at h1
        have hbB : best ms B = some (0, k) := bst_of ⟨by rw [← h2]; simp only [List.length_cons]; omega, by have := BI.fd; rw [← h1] at this; exact (by rw [show A.length = A.length + 0 from rfl, it_right, Nat.add_zero, it_right] at this; exact this), fun i k' hi hf => by
          have := BI.all (A.length + i) k' (by rw [List.length_append]; omega) (by rw [it_right, Nat.add_assoc, it_right]; exact hf)
          exact ⟨this.1, fun h => by omega⟩⟩
        refine ⟨o :: R, ?_, by rw [h1]⟩
        rw [step_some hbB, ← ho, ← h2]
        rfl
      | [y], h2 =>
        right; right; right
        obtain ⟨rfl, h3⟩ := List.cons.inj h2
        exact ⟨P, R, l, r, o, h1, h3.symm, rfl, hsz⟩
      | y :: z :: M, h2 =>
        right; left
        obtain ⟨rfl, h3⟩ := List.cons.inj h2
        obtain ⟨rfl, h4⟩ := List.cons.inj h3
        have hAl : A.length = P.length + (2 + M.length) := by rw [h1, List.length_append]; simp only [List.length_cons]; omega
        have hbA : best ms A = some (P.length, k) := bst_of ⟨by omega, by have := BI.fd; rwa [it_left (by omega), it_left (by omega)] at this, fun i k' hi hf => by
          exact BI.all i k' (by rw [List.length_append]; omega) (by rw [it_left (by omega), it_left (by omega)]; exact hf)⟩
        refine ⟨P ++ o :: M, ?_, by rw [h4]; simp⟩
        rw [step_some hbA, ← ho, h1]
        congr 1
        unfold jn
        rw [List.take_left, show P.length + 2 = (P ++ [l, r]).length from by simp, show P ++ l :: r :: M = (P ++ [l, r]) ++ M from by simp, List.drop_left]
/-- Rows that are cut where a token of their end ends run as if each stood alone. -/
theorem run_cut {ts : Vc.Toks} {ms : List Mg4} (hM : Vc.MayM ts ms) : ∀ (n : Nat) (A B C D : Row), A.length + B.length ≤ n → Toks ts (A ++ B) → run ms (A ++ B) = C ++ D → wid ts C = wid ts A → run ms A = C ∧ run ms B = D
  | n, A, B, C, D, hn, hT, hr, hw => by
    rcases cut_step hM A B with ⟨h0, h1, h2⟩ | ⟨A', h1, h2⟩ | ⟨B', h1, h2⟩ | ⟨P, R, l, r, o, hA, hB, hs, hsz⟩
    · rw [run_stop h0] at hr
      rw [run_stop h1, run_stop h2]
      exact part_one hT hr hw.symm
    · have hl := step_len h1
      have hTA := (toks_append.1 hT).1
      obtain ⟨hT', hc⟩ := step_cat hM hTA h1
      rw [run_step h2] at hr
      match n, hn with
      | 0, hn => omega
      | n + 1, hn =>
        rw [run_step h1]
        exact run_cut hM n A' B C D (by omega) (toks_append.2 ⟨hT', (toks_append.1 hT).2⟩) hr (by rw [hw]; unfold wid; rw [hc])
    · have hl := step_len h1
      have hTB := (toks_append.1 hT).2
      obtain ⟨hT', hc⟩ := step_cat hM hTB h1
      rw [run_step h2] at hr
      match n, hn with
      | 0, hn => omega
      | n + 1, hn =>
        rw [run_step h1]
        exact run_cut hM n A B' C D (by omega) (toks_append.2 ⟨(toks_append.1 hT).1, hT'⟩) hr hw
    · exfalso
      rw [run_step hs] at hr
      obtain ⟨E, F, h1, h2⟩ := run_back hM _ C D hr
      rw [hw, hA, wid_append, wid_cons] at h2
      have hl : 0 < (Vc.tok ts l).size := is_pos (hT l (by rw [hA]; simp))
      have hr' : 0 < (Vc.tok ts r).size := is_pos (hT r (by rw [hB]; simp))
      have z : wid ts [] = 0 := rfl
      rw [z] at h2
      rcases List.append_eq_append_iff.1 h1 with ⟨M, g1, g2⟩ | ⟨M, g1, g2⟩
      · cases M with
        | nil => rw [g1, List.append_nil] at h2; omega
        | cons y M =>
          obtain ⟨rfl, _⟩ := List.cons.inj g2
          rw [g1, wid_append, wid_cons] at h2
          omega
      · rw [g1, wid_append] at h2
        omega
/-! ### Rows of bytes -/
/-- The number of a byte alone. -/
def BytN (ts : Vc.Toks) (f : UInt8 → Int) : Prop := ∀ b, Vc.Is ts (f b) ∧ by_ (Vc.tok ts (f b)) = [b]
theorem bytes_cat {ts : Vc.Toks} {f : UInt8 → Int} (hf : BytN ts f) : ∀ s : List UInt8, Toks ts (s.map f) ∧ cat ts (s.map f) = s
  | [] => ⟨(fun x hx => (by cases hx)), rfl⟩
  | b :: s => by
    obtain ⟨h1, h2⟩ := bytes_cat hf s
    refine ⟨toks_cons.2 ⟨(hf b).1, h1⟩, ?_⟩
    rw [List.map_cons, cat_cons, (hf b).2, h2]
    rfl
/-- The tokens of bytes. -/
def enc (ms : List Mg4) (f : UInt8 → Int) (s : List UInt8) : Row := run ms (s.map f)
section
variable {ts : Vc.Toks} {ms : List Mg4} {f : UInt8 → Int}
theorem enc_cat (hM : Vc.MayM ts ms) (hf : BytN ts f) (s : List UInt8) : Toks ts (enc ms f s) ∧ cat ts (enc ms f s) = s := by
  obtain ⟨h1, h2⟩ := bytes_cat hf s
  obtain ⟨h3, h4⟩ := run_cat hM h1
  exact ⟨h3, h4.trans h2⟩
theorem enc_len (s : List UInt8) : (enc ms f s).length ≤ s.length := by
  have := run_len ms (s.map f)
  rwa [List.length_map] at this
theorem enc_nil : enc ms f [] = [] := run_stop rfl
/-- Cut where a token ends. -/
theorem enc_cut (hM : Vc.MayM ts ms) (hf : BytN ts f) {s : List UInt8} {C D : Row} (h : enc ms f s = C ++ D) : s = cat ts C ++ cat ts D ∧ enc ms f (cat ts C) = C ∧ enc ms f (cat ts D) = D := by
  have hc := (enc_cat hM hf s).2
  rw [h, cat_append] at hc
  refine ⟨hc.symm, ?_⟩
  have hr : run ms ((cat ts C).map f ++ (cat ts D).map f) = C ++ D := by rw [← List.map_append, hc]; exact h
  refine run_cut hM _ _ _ C D (Nat.le_refl _) (by rw [← List.map_append]; exact (bytes_cat hf _).1) hr ?_
  show (cat ts C).length = (cat ts ((cat ts C).map f)).length
  rw [(bytes_cat hf _).2]
/-- Each token of an end comes of its own bytes. -/
theorem enc_own (hM : Vc.MayM ts ms) (hf : BytN ts f) {s : List UInt8} {x : Int} (h : x ∈ enc ms f s) : enc ms f (by_ (Vc.tok ts x)) = [x] := by
  obtain ⟨C, D, e⟩ := List.append_of_mem h
  have h1 := (enc_cut hM hf e).2.2
  have h2 := (enc_cut hM hf (C := [x]) (D := D) h1).2.1
  rwa [cat_cons, cat_nil, List.append_nil] at h2
end
end Pr
end Go.Proofs.Ytcjakjmhghoilaa

/-
  Vocabularies that are alike but for their tokens' numbers, in plain mathematics. No program is named here.
-/
namespace Go.Proofs.Ytcjakjmhghoilaa
open Go.RowKit
namespace Pr
/-- A merge, its numbers further on. -/
def shM (k : Int) (m : Mg4) : Mg4 := (m.1 + k, m.2.1 + k, m.2.2.1 + k, m.2.2.2)
def shX (k : Int) (xs : Row) : Row := xs.map (· + k)
theorem mat_map (k : Int) (ms : List Mg4) {j : Nat} (h : j < ms.length) : mat (ms.map (shM k)) j = shM k (mat ms j) := by
  simp [mat, h]
theorem it_shX (k : Int) {xs : Row} {i : Nat} (h : i < xs.length) : it (shX k xs) i = it xs i + k := by
  simp [it, shX, h]
theorem shX_len (k : Int) (xs : Row) : (shX k xs).length = xs.length := by simp [shX]
theorem fndTo_sh (k : Int) (ms : List Mg4) (l r : Int) : ∀ j, j ≤ ms.length → fndTo (ms.map (shM k)) (l + k) (r + k) j = fndTo ms l r j
  | 0, _ => rfl
  | j + 1, h => by
    have ih := fndTo_sh k ms l r j (by omega)
    have e := mat_map k ms (show j < ms.length by omega)
    cases hq : fndTo ms l r j with
    | some i =>
      rw [hq] at ih
      rw [show fndTo (ms.map (shM k)) (l + k) (r + k) (j + 1) = some i from fndTo_mono ih 1, show fndTo ms l r (j + 1) = some i from fndTo_mono hq 1]
    | none =>
      rw [hq] at ih
      by_cases hc : (mat ms j).1 = l ∧ (mat ms j).2.1 = r
      · rw [fndTo_hit hq hc, fndTo_hit ih (by rw [e]; exact ⟨by show (mat ms j).1 + k = _; omega, by show (mat ms j).2.1 + k = _; omega⟩)]
      · rw [fndTo_miss hq hc, fndTo_miss ih (by rw [e]; intro h2; refine hc ⟨?_, ?_⟩; have := h2.1; simp only [shM] at this; omega; have := h2.2; simp only [shM] at this; omega)]
theorem fnd_sh (k : Int) (ms : List Mg4) (l r : Int) : fnd (ms.map (shM k)) (l + k) (r + k) = fnd ms l r := by
  unfold fnd
  rw [List.length_map]
  exact fndTo_sh k ms l r _ (Nat.le_refl _)
theorem ord_sh (k : Int) (ms : List Mg4) {j : Nat} (h : j < ms.length) : ord (ms.map (shM k)) j = ord ms j := by unfold ord; rw [mat_map k ms h]; rfl
theorem best_sh (k : Int) (ms : List Mg4) (xs : Row) : best (ms.map (shM k)) (shX k xs) = best ms xs := by
  have fx : ∀ i, i < xs.length - 1 → fnd (ms.map (shM k)) (it (shX k xs) i) (it (shX k xs) (i + 1)) = fnd ms (it xs i) (it xs (i + 1)) := fun i hi => by
    rw [it_shX k (by omega), it_shX k (by omega), fnd_sh]
  unfold best
  rw [shX_len]
  rcases bst_is (ms := ms) (xs := xs) (xs.length - 1) with ⟨h1, h2⟩ | ⟨p, q, h1, h2⟩
  · rw [h1]
    exact bst_nil fun i hi => by rw [fx i hi]; exact h2 i hi
  · rw [h1]
    have hq := (fnd_some h2.fd).1
    refine bst_of ⟨h2.lt, by rw [fx p h2.lt]; exact h2.fd, fun i k' hi hf => ?_⟩
    rw [fx i hi] at hf
    have hk := (fnd_some hf).1
    rw [ord_sh k ms hq, ord_sh k ms hk]
    exact h2.all i k' hi hf
theorem step_sh (k : Int) (ms : List Mg4) (xs : Row) : step (ms.map (shM k)) (shX k xs) = (step ms xs).map (shX k) := by
  cases hb : best ms xs with
  | none => rw [step_none hb, step_none (by rw [best_sh]; exact hb)]; rfl
  | some q =>
    obtain ⟨p, j⟩ := q
    have hj := (best_lt hb).2
    rw [step_some hb, step_some (show best (ms.map (shM k)) (shX k xs) = some (p, j) by rw [best_sh]; exact hb), mat_map k ms hj]
    simp [jn, shX, shM]
theorem run_sh (k : Int) (ms : List Mg4) : ∀ (n : Nat) (xs : Row), xs.length ≤ n → run (ms.map (shM k)) (shX k xs) = shX k (run ms xs)
  | n, xs, h => by
    cases hs : step ms xs with
    | none => rw [run_stop hs, run_stop (by rw [step_sh, hs]; rfl)]
    | some ys =>
      have hl := step_len hs
      match n, h with
      | 0, h => omega
      | n + 1, h => rw [run_step hs, run_step (show step (ms.map (shM k)) (shX k xs) = some (shX k ys) by rw [step_sh, hs]; rfl), run_sh k ms n ys (by omega)]
theorem enc_sh (k : Int) (ms : List Mg4) (f : UInt8 → Int) (s : List UInt8) : enc (ms.map (shM k)) (fun b => f b + k) s = shX k (enc ms f s) := by
  unfold enc
  rw [← run_sh k ms _ _ (Nat.le_refl _)]
  congr 1
  simp [shX]
end Pr
namespace Vc
/-- So many empty tokens ahead. -/
def shT (k : Nat) (ts : Toks) : Toks := List.replicate k ⟨#[]⟩ ++ ts
theorem shT_len (k : Nat) (ts : Toks) : (shT k ts).length = k + ts.length := by simp [shT]
theorem shT_at (k : Nat) (ts : Toks) (i : Nat) : at_ (shT k ts) (k + i) = at_ ts i := by
  unfold at_ shT
  rw [List.getD_eq_getElem?_getD, List.getD_eq_getElem?_getD, List.getElem?_append_right (by simp)]
  simp
theorem shT_low (k : Nat) (ts : Toks) {i : Nat} (h : i < k) : at_ (shT k ts) i = ⟨#[]⟩ := by
  unfold at_ shT
  rw [List.getD_eq_getElem?_getD, List.getElem?_append_left (by simp; exact h)]
  simp [h]
theorem shT_is {k : Nat} {ts : Toks} {x : Int} (h : Is ts x) : Is (shT k ts) (x + k) ∧ tok (shT k ts) (x + k) = tok ts x := by
  have e : (x + k).toNat = k + x.toNat := by have := h.1; omega
  have hh := h.1
  have hl := h.2.1
  refine ⟨⟨by omega, by rw [shT_len]; omega, ?_⟩, ?_⟩
  · rw [e, shT_at]; exact h.2.2
  · unfold tok; rw [e, shT_at]
theorem may_sh {k : Nat} {ts : Toks} {ms : List Mg4} {sp : Sps} (h : May ts ms sp) (hk : k + ts.length ≤ 4096) : May (shT k ts) (ms.map (Pr.shM k)) [] := by
  refine ⟨⟨by rw [shT_len]; exact hk, fun i hi => ?_, fun i j hi hj h0 e => ?_, fun b hb => ?_⟩, ⟨by rw [List.length_map]; exact h.M.len, fun i hi => ?_, fun i j hij hj => ?_⟩, fun i hi => ?_, ⟨by decide, fun i hi => absurd hi (by simp), fun i j _ hj => absurd hj (by simp)⟩⟩
  · rw [shT_len] at hi
    by_cases hik : i < k
    · rw [shT_low k ts hik]; exact Nat.zero_le _
    · obtain ⟨m, rfl⟩ : ∃ m, i = k + m := ⟨i - k, by omega⟩
      rw [shT_at]; exact h.T.sz m (by omega)
  · rw [shT_len] at hi hj
    have hik : ¬ i < k := fun g => h0 (by rw [shT_low k ts g]; rfl)
    obtain ⟨m, rfl⟩ : ∃ m, i = k + m := ⟨i - k, by omega⟩
    rw [shT_at] at h0 e
    have hjk : ¬ j < k := fun g => h0 (by rw [e, shT_low k ts g]; rfl)
    obtain ⟨n, rfl⟩ : ∃ n, j = k + n := ⟨j - k, by omega⟩
    rw [shT_at] at e
    have := h.T.apart m n (by omega) (by omega) h0 e
    omega
  · obtain ⟨i, hi, e⟩ := h.T.all b hb
    exact ⟨k + i, by rw [shT_len]; omega, by rw [shT_at]; exact e⟩
  · rw [List.length_map] at hi
    rw [Pr.mat_map _ _ hi]
    obtain ⟨h1, h2, h3, h4, h5, h6⟩ := h.M.ok i hi
    exact ⟨(shT_is h1).1, (shT_is h2).1, (shT_is h3).1, by show tok _ ((mat ms i).2.2.1 + k) = tok _ ((mat ms i).1 + k) ++ tok _ ((mat ms i).2.1 + k); rw [(shT_is h1).2, (shT_is h2).2, (shT_is h3).2, h4], h5, h6⟩
  · rw [List.length_map] at hj
    rw [Pr.mat_map _ _ hj, Pr.mat_map _ _ (by omega)]
    have := h.M.both i j hij hj
    unfold Both Ahead at this ⊢
    simp only [Pr.shM]
    omega
  · rw [shT_len] at hi
    by_cases hik : i < k
    · left; rw [shT_low k ts hik]; decide
    · obtain ⟨m, rfl⟩ : ∃ m, i = k + m := ⟨i - k, by omega⟩
      rw [shT_at]
      rcases h.O m (by omega) with g | ⟨q, hq, e⟩
      · exact .inl g
      · refine .inr ⟨q, by rw [List.length_map]; exact hq, ?_⟩
        rw [Pr.mat_map _ _ hq]
        show (mat ms q).2.2.1 + (k : Int) = _
        rw [e]
        omega
end Vc
end Go.Proofs.Ytcjakjmhghoilaa

/-
  Heaps as the library's container/heap keeps them (up, down over a row), in plain mathematics: told by functions. No program is named here.
-/
namespace Go.Proofs.Ytcjakjmhghoilaa
namespace Hp
section
variable {α : Type}
/-- Two places of a row exchanged. -/
def swp (f : Nat → α) (i j : Nat) : Nat → α := fun k => if k = i then f j else if k = j then f i else f k
theorem swp_l (f : Nat → α) (i j : Nat) : swp f i j i = f j := by simp [swp]
theorem swp_r (f : Nat → α) (i j : Nat) : swp f i j j = f i := by
  unfold swp
  by_cases h : j = i
  · rw [if_pos h, h]
  · rw [if_neg h, if_pos rfl]
theorem swp_o (f : Nat → α) {i j k : Nat} (h1 : k ≠ i) (h2 : k ≠ j) : swp f i j k = f k := by
  unfold swp; rw [if_neg h1, if_neg h2]
/-- What stands in the first n places. -/
def Cont (f : Nat → α) (n : Nat) (e : α) : Prop := ∃ i, i < n ∧ f i = e
theorem swp_cont {f : Nat → α} {n i j : Nat} (hi : i < n) (hj : j < n) (e : α) : Cont (swp f i j) n e ↔ Cont f n e := by
  constructor
  · rintro ⟨k, hk, rfl⟩
    by_cases h1 : k = i
    · exact ⟨j, hj, by rw [h1, swp_l]⟩
    · by_cases h2 : k = j
      · exact ⟨i, hi, by rw [h2, swp_r]⟩
      · exact ⟨k, hk, (swp_o f h1 h2).symm⟩
  · rintro ⟨k, hk, rfl⟩
    by_cases h1 : k = i
    · exact ⟨j, hj, by rw [h1, swp_r]⟩
    · by_cases h2 : k = j
      · exact ⟨i, hi, by rw [h2, swp_l]⟩
      · exact ⟨k, hk, swp_o f h1 h2⟩
/-- No two places hold things of one key. -/
def Inj {κ : Type} (key : α → κ) (f : Nat → α) (n : Nat) : Prop := ∀ i j, i < n → j < n → key (f i) = key (f j) → i = j
theorem swp_inj {κ : Type} {key : α → κ} {f : Nat → α} {n i j : Nat} (hi : i < n) (hj : j < n) (h : Inj key f n) : Inj key (swp f i j) n := by
  have st : ∀ k, k < n → ∃ k', k' < n ∧ swp f i j k = f k' ∧ (k = i ∧ k' = j ∨ k = j ∧ k' = i ∨ k ≠ i ∧ k ≠ j ∧ k' = k) := by
    intro k hk
    by_cases h1 : k = i
    · exact ⟨j, hj, by rw [h1, swp_l], .inl ⟨h1, rfl⟩⟩
    · by_cases h2 : k = j
      · exact ⟨i, hi, by rw [h2, swp_r], .inr (.inl ⟨h2, rfl⟩)⟩
      · exact ⟨k, hk, swp_o f h1 h2, .inr (.inr ⟨h1, h2, rfl⟩)⟩
  intro a b ha hb he
  obtain ⟨a', ha', ea, wa⟩ := st a ha
  obtain ⟨b', hb', eb, wb⟩ := st b hb
  rw [ea, eb] at he
  have := h a' b' ha' hb' he
  omega

variable (lt : α → α → Prop)
/-- The place above. -/
def par (k : Nat) : Nat := (k - 1) / 2
theorem par_lt {k : Nat} (h : 0 < k) : par k < k := by unfold par; omega
/-- Not less than what stands above. -/
def Ok (f : Nat → α) (k : Nat) : Prop := ¬ lt (f k) (f (par k))
/-- A heap. -/
def Heap (f : Nat → α) (n : Nat) : Prop := ∀ k, 0 < k → k < n → Ok lt f k
/-- What 'up' goes by: one place j may be less than what stands above it. -/
structure UInv (f : Nat → α) (n j : Nat) : Prop where
  ok : ∀ k, 0 < k → k < n → k ≠ j → Ok lt f k
  gr : ∀ k, 0 < k → k < n → par k = j → 0 < j → ¬ lt (f k) (f (par j))
/-- What 'down' goes by: what stands below i may be less than it; i itself, unless it has been moved to, may be less than what stands above. -/
structure DInv (f : Nat → α) (n i : Nat) (moved : Prop) : Prop where
  ok : ∀ k, 0 < k → k < n → par k ≠ i → (k = i → moved) → Ok lt f k
  gr : ∀ k, 0 < k → k < n → par k = i → 0 < i → ¬ lt (f k) (f (par i))
/-- A strict order, one way or the other. -/
structure Ord : Prop where
  irr : ∀ a, ¬ lt a a
  tr : ∀ a b c, lt a b → lt b c → lt a c
  nt : ∀ a b c, ¬ lt a b → ¬ lt b c → ¬ lt a c
variable {lt}
theorem Ord.asym (O : Ord lt) {a b : α} (h : lt a b) : ¬ lt b a := fun k => O.irr _ (O.tr _ _ _ h k)
theorem Ord.ntr (O : Ord lt) {a b c : α} (h : ¬ lt a b) (k : ¬ lt b c) : ¬ lt a c := O.nt _ _ _ h k
theorem Heap.root (O : Ord lt) {f : Nat → α} {n : Nat} (h : Heap lt f n) : ∀ k, k < n → ¬ lt (f k) (f 0) := by
  intro k
  induction k using Nat.strongRecOn with
  | ind k ih =>
    intro hk
    by_cases h0 : k = 0
    · rw [h0]; exact O.irr _
    · have hp := par_lt (k := k) (by omega)
      exact O.ntr (h k (by omega) hk) (ih (par k) hp (by omega))
/-! ### up -/
theorem UInv.stop {f : Nat → α} {n j : Nat} (h : UInv lt f n j) (hs : j = 0 ∨ ¬ lt (f j) (f (par j))) : Heap lt f n := by
  intro k h0 hk
  by_cases hkj : k = j
  · rcases hs with hs | hs
    · omega
    · rw [hkj]; exact hs
  · exact h.ok k h0 hk hkj
theorem UInv.step (O : Ord lt) {f : Nat → α} {n j : Nat} (h : UInv lt f n j) (hj : 0 < j) (hjn : j < n) (hl : lt (f j) (f (par j))) : UInv lt (swp f (par j) j) n (par j) := by
  have hp := par_lt hj
  constructor
  · intro k h0 hk hkp
    unfold Ok
    by_cases hkj : k = j
    · rw [hkj, swp_r, swp_l]
      exact O.asym hl
    · rw [swp_o f hkp hkj]
      by_cases h1 : par k = par j
      · rw [h1, swp_l]
        -- beside j: not less than what stood above, which is not less than j
        have := h.ok k h0 hk hkj
        unfold Ok at this
        rw [h1] at this
        exact O.ntr this (O.asym hl)
      · by_cases h2 : par k = j
        · rw [h2, swp_r]
          exact h.gr k h0 hk h2 hj
        · rw [swp_o f h1 h2]
          exact h.ok k h0 hk hkj
  · intro k h0 hk hkp hpp
    have hq := par_lt hpp
    rw [swp_o f (show par (par j) ≠ par j by omega) (show par (par j) ≠ j by omega)]
    by_cases hkj : k = j
    · rw [hkj, swp_r]
      exact h.ok (par j) hpp (by omega) (by omega)
    · rw [swp_o f (show k ≠ par j by have := par_lt h0; omega) hkj]
      have h1 := h.ok k h0 hk hkj
      unfold Ok at h1
      rw [hkp] at h1
      exact O.ntr h1 (h.ok (par j) hpp (by omega) (by omega))
/-! ### down -/
/-- The lesser one of what stands below. -/
structure Kid (lt : α → α → Prop) (f : Nat → α) (n i j : Nat) : Prop where
  low : j < n
  of : 0 < j ∧ par j = i
  le : ∀ k, 0 < k → k < n → par k = i → ¬ lt (f k) (f j)
theorem kids {k i : Nat} (h0 : 0 < k) (h : par k = i) : k = 2 * i + 1 ∨ k = 2 * i + 2 := by unfold par at h; omega
theorem Kid.one (O : Ord lt) {f : Nat → α} {n i : Nat} (h1 : 2 * i + 1 < n) (h2 : ¬ (2 * i + 2 < n ∧ lt (f (2 * i + 2)) (f (2 * i + 1)))) : Kid lt f n i (2 * i + 1) :=
  ⟨h1, ⟨by omega, by unfold par; omega⟩, fun k h0 hk hp => by
    rcases kids h0 hp with rfl | rfl
    · exact O.irr _
    · exact fun h => h2 ⟨hk, h⟩⟩
theorem Kid.two (O : Ord lt) {f : Nat → α} {n i : Nat} (h2 : 2 * i + 2 < n) (hl : lt (f (2 * i + 2)) (f (2 * i + 1))) : Kid lt f n i (2 * i + 2) :=
  ⟨h2, ⟨by omega, by unfold par; omega⟩, fun k h0 hk hp => by
    rcases kids h0 hp with rfl | rfl
    · exact O.asym hl
    · exact O.irr _⟩
theorem DInv.step (O : Ord lt) {f : Nat → α} {n i j : Nat} {m : Prop} (h : DInv lt f n i m) (K : Kid lt f n i j) (hl : lt (f j) (f i)) : DInv lt (swp f i j) n j True := by
  have hj0 := K.of.1
  have hji : i < j := by have := par_lt hj0; rw [K.of.2] at this; exact this
  constructor
  · intro k h0 hk hp _
    unfold Ok
    by_cases hkj : k = j
    · rw [hkj, K.of.2, swp_r, swp_l]
      exact O.asym hl
    · by_cases hki : k = i
      · rw [hki, swp_l]
        have hp2 := par_lt (k := i) (by omega)
        rw [swp_o f (by omega) (by omega)]
        exact h.gr j hj0 K.low K.of.2 (by omega)
      · rw [swp_o f hki hkj]
        by_cases hpi : par k = i
        · rw [hpi, swp_l]
          exact K.le k h0 hk hpi
        · rw [swp_o f hpi hp]
          exact h.ok k h0 hk hpi (fun e => absurd e hki)
  · intro k h0 hk hp _
    have hkj : j < k := by have := par_lt h0; omega
    rw [K.of.2, swp_l, swp_o f (by omega) (by omega)]
    have := h.ok k h0 hk (by omega) (fun e => by omega)
    unfold Ok at this
    rw [hp] at this
    exact this
/-- No one below is less: 'down' is done. -/
theorem DInv.stop {f : Nat → α} {n i : Nat} {m : Prop} (h : DInv lt f n i m) (hs : ∀ k, 0 < k → k < n → par k = i → ¬ lt (f k) (f i)) : (m → Heap lt f n) ∧ UInv lt f n i := by
  have key : ∀ k, 0 < k → k < n → (k = i → m) → Ok lt f k := fun k h0 hk hm => by
    by_cases hp : par k = i
    · unfold Ok; rw [hp]; exact hs k h0 hk hp
    · exact h.ok k h0 hk hp hm
  exact ⟨fun hm k h0 hk => key k h0 hk (fun _ => hm), ⟨fun k h0 hk hki => key k h0 hk (fun e => absurd e hki), h.gr⟩⟩
theorem stop_none {f : Nat → α} {n i : Nat} (h : ¬ 2 * i + 1 < n) : ∀ k, 0 < k → k < n → par k = i → ¬ lt (f k) (f i) := fun k h0 hk hp => by
  rcases kids h0 hp with rfl | rfl <;> omega
theorem stop_kid (O : Ord lt) {f : Nat → α} {n i j : Nat} (K : Kid lt f n i j) (hl : ¬ lt (f j) (f i)) : ∀ k, 0 < k → k < n → par k = i → ¬ lt (f k) (f i) := fun k h0 hk hp => O.ntr (K.le k h0 hk hp) hl
/-! ### how the library's calls begin -/
/-- Push: one thing more behind a heap. -/
theorem push_inv {f : Nat → α} {n : Nat} (h : Heap lt f n) (x : α) : UInv lt (fun k => if k < n then f k else x) (n + 1) n where
  ok k h0 hk hne := by
    have hp := par_lt h0
    show ¬ lt (if k < n then f k else x) (if par k < n then f (par k) else x)
    rw [if_pos (by omega), if_pos (by omega)]
    exact h k h0 (by omega)
  gr k h0 hk hp hn := by have := par_lt h0; omega
/-- A thing at a place of a heap is another one now (Fix, Remove). -/
theorem fix_inv (O : Ord lt) {f : Nat → α} {n i : Nat} (h : Heap lt f n) (hi : i < n) (x : α) : DInv lt (fun k => if k = i then x else f k) n i False where
  ok k h0 hk hp hm := by
    have hki : k ≠ i := fun e => hm e
    show ¬ lt (if k = i then x else f k) (if par k = i then x else f (par k))
    rw [if_neg hki, if_neg hp]
    exact h k h0 hk
  gr k h0 hk hp hi0 := by
    have hp2 := par_lt hi0
    have hk2 := par_lt h0
    show ¬ lt (if k = i then x else f k) (if par i = i then x else f (par i))
    rw [if_neg (by omega), if_neg (by omega)]
    have h1 := h k h0 hk
    have h2 := h i hi0 hi
    unfold Ok at h1 h2
    rw [hp] at h1
    exact O.ntr h1 h2
theorem Heap.sub {f : Nat → α} {n m : Nat} (h : Heap lt f n) (hm : m ≤ n) : Heap lt f m := fun k h0 hk => h k h0 (by omega)
theorem Heap.congr {f g : Nat → α} {n : Nat} (h : Heap lt f n) (e : ∀ k, k < n → f k = g k) : Heap lt g n := fun k h0 hk => by
  have := h k h0 hk
  unfold Ok at this ⊢
  rwa [e k hk, e (par k) (by have := par_lt h0; omega)] at this
theorem UInv.congr {f g : Nat → α} {n j : Nat} (h : UInv lt f n j) (e : ∀ k, k < n → f k = g k) (hj : j < n) : UInv lt g n j where
  ok k h0 hk hne := by
    have := h.ok k h0 hk hne
    unfold Ok at this ⊢
    rwa [e k hk, e (par k) (by have := par_lt h0; omega)] at this
  gr k h0 hk hp h1 := by
    have := h.gr k h0 hk hp h1
    rwa [e k hk, e (par j) (by have := par_lt h1; omega)] at this
theorem DInv.congr {f g : Nat → α} {n i : Nat} {m : Prop} (h : DInv lt f n i m) (e : ∀ k, k < n → f k = g k) (hi : i < n) : DInv lt g n i m where
  ok k h0 hk hp hm := by
    have := h.ok k h0 hk hp hm
    unfold Ok at this ⊢
    rwa [e k hk, e (par k) (by have := par_lt h0; omega)] at this
  gr k h0 hk hp h1 := by
    have := h.gr k h0 hk hp h1
    rwa [e k hk, e (par i) (by have := par_lt h1; omega)] at this
/-- Pop and Remove: place i and the last one exchanged, the last one let go. -/
theorem cut_inv (O : Ord lt) {f : Nat → α} {n i : Nat} (h : Heap lt f (n + 1)) (hi : i < n) : DInv lt (swp f i n) n i False :=
  (fix_inv O (h.sub (Nat.le_succ n)) hi (f n)).congr (fun k hk => by
    by_cases hki : k = i
    · rw [if_pos hki, hki, swp_l]
    · rw [if_neg hki, swp_o f hki (by omega)]) hi
/-- From the root down nothing stands above. -/
theorem DInv.root {f : Nat → α} {n : Nat} {m : Prop} (h : DInv lt f n 0 m) : DInv lt f n 0 True :=
  ⟨fun k h0 hk hp _ => h.ok k h0 hk hp (fun e => by omega), h.gr⟩
/-- What is left when the last one, exchanged with place i, is let go. -/
theorem cut_cont {κ : Type} {key : α → κ} {f : Nat → α} {n i : Nat} (hI : Inj key f (n + 1)) (hi : i ≤ n) (e : α) : Cont (swp f i n) n e ↔ (Cont f (n + 1) e ∧ key e ≠ key (f i)) := by
  constructor
  · rintro ⟨k, hk, rfl⟩
    by_cases hki : k = i
    · rw [hki, swp_l]
      refine ⟨⟨n, by omega, rfl⟩, fun h => ?_⟩
      have := hI n i (by omega) (by omega) h
      omega
    · rw [swp_o f hki (by omega)]
      refine ⟨⟨k, by omega, rfl⟩, fun h => hki (hI k i (by omega) (by omega) h)⟩
  · rintro ⟨⟨k, hk, rfl⟩, hne⟩
    have hki : k ≠ i := fun e => hne (by rw [e])
    by_cases hkn : k = n
    · refine ⟨i, by omega, ?_⟩
      rw [swp_l, hkn]
    · exact ⟨k, by omega, swp_o f hki hkn⟩
end
/-- Entries: a place, an order, and something to tell it by; the lesser order first, of one order the lesser place. -/
abbrev Ent := Int × Int × Int
def lt (a b : Ent) : Prop := a.2.1 < b.2.1 ∨ (a.2.1 = b.2.1 ∧ a.1 < b.1)
theorem lt_ord : Ord lt where
  irr a := by unfold lt; omega
  tr a b c h k := by unfold lt at *; omega
  nt a b c h k := by unfold lt at *; omega
theorem lt_place {a b : Ent} (h : ¬ lt a b) (k : ¬ lt b a) : a.1 = b.1 := by unfold lt at *; omega
/-! ### The reference's row of entries -/
/-- A row without a place's entry. -/
def wo (l : List Ent) (p : Int) : List Ent := l.filter fun e => e.1 != p
/-- No two entries of one place. -/
def Dis (l : List Ent) : Prop := l.Pairwise fun a b => a.1 ≠ b.1
theorem wo_mem {l : List Ent} {p : Int} {e : Ent} : e ∈ wo l p ↔ e ∈ l ∧ e.1 ≠ p := by simp [wo]
theorem wo_dis {l : List Ent} (h : Dis l) (p : Int) : Dis (wo l p) := List.Pairwise.filter _ h
theorem wo_none {l : List Ent} {p : Int} (h : ∀ e ∈ l, e.1 ≠ p) : wo l p = l := by
  unfold wo
  rw [List.filter_eq_self]
  intro e he
  simpa using h e he
theorem wo_len {l : List Ent} (h : Dis l) {p : Int} (hx : ∃ e ∈ l, e.1 = p) : (wo l p).length + 1 = l.length := by
  induction l with
  | nil => obtain ⟨e, he, _⟩ := hx; cases he
  | cons a l ih =>
    have hd := List.pairwise_cons.1 h
    by_cases ha : a.1 = p
    · have h1 : wo (a :: l) p = wo l p := by simp [wo, ha]
      have h2 : wo l p = l := wo_none (fun e he hp => hd.1 e he (by rw [ha, hp]))
      rw [h1, h2]; rfl
    · have h1 : wo (a :: l) p = a :: wo l p := by simp [wo, ha]
      rw [h1]
      obtain ⟨e, he, hp⟩ := hx
      rcases List.mem_cons.1 he with rfl | he
      · exact absurd hp ha
      · have := ih hd.2 ⟨e, he, hp⟩
        simp only [List.length_cons]
        omega
theorem put_dis {l : List Ent} (h : Dis l) (e : Ent) : Dis (wo l e.1 ++ [e]) := by
  unfold Dis
  rw [List.pairwise_append]
  refine ⟨wo_dis h e.1, List.pairwise_singleton _ _, fun a ha b hb => ?_⟩
  obtain rfl := List.mem_singleton.1 hb
  exact (wo_mem.1 ha).2
theorem dis_one {l : List Ent} (h : Dis l) {a b : Ent} (ha : a ∈ l) (hb : b ∈ l) (hp : a.1 = b.1) : a = b := by
  obtain ⟨i, hi, rfl⟩ := List.mem_iff_getElem.1 ha
  obtain ⟨j, hj, rfl⟩ := List.mem_iff_getElem.1 hb
  have hq := List.pairwise_iff_getElem.1 h
  rcases Nat.lt_trichotomy i j with q | q | q
  · exact absurd hp (hq i j hi hj q)
  · subst q; rfl
  · exact absurd hp.symm (hq j i hj hi q)
/-- The first one of several is one. -/
theorem least_one {l : List Ent} (h : Dis l) {a b : Ent} (ha : a ∈ l) (hb : b ∈ l) (la : ∀ e ∈ l, ¬ lt e a) (lb : ∀ e ∈ l, ¬ lt e b) : a = b :=
  dis_one h ha hb (lt_place (lb a ha) (la b hb))
end Hp
end Go.Proofs.Ytcjakjmhghoilaa

/-
  A row whose places are told, and an agenda that holds what may merge in it, in plain mathematics. No program is named here.
-/
namespace Go.Proofs.Ytcjakjmhghoilaa
open Go.RowKit
namespace Pr
open Hp (Ent lt wo Dis)
/-- A row, each of its numbers with the place where it begins. -/
abbrev Ch := List (Nat × Int)
def pl (L : Ch) (i : Nat) : Nat := (L.getD i (0, 0)).1
def tk (L : Ch) (i : Nat) : Int := (L.getD i (0, 0)).2
def toks (L : Ch) : Row := L.map (·.2)
def Asc (L : Ch) : Prop := L.Pairwise fun a b => a.1 < b.1
theorem toks_len (L : Ch) : (toks L).length = L.length := by simp [toks]
theorem toks_it (L : Ch) {i : Nat} (h : i < L.length) : it (toks L) i = tk L i := by simp [it, toks, tk, h]
theorem asc_lt {L : Ch} (h : Asc L) {i j : Nat} (hij : i < j) (hj : j < L.length) : pl L i < pl L j := by
  have := List.pairwise_iff_getElem.1 h i j (by omega) hj hij
  simpa [pl, hj, show i < L.length by omega] using this
theorem asc_le {L : Ch} (h : Asc L) {i j : Nat} (hi : i < L.length) (hp : pl L i ≤ pl L j) : i ≤ j := by
  rcases Nat.lt_or_ge j i with g | g
  · have := asc_lt h g hi; omega
  · exact g
theorem asc_inj {L : Ch} (h : Asc L) {i j : Nat} (hi : i < L.length) (hj : j < L.length) (hp : pl L i = pl L j) : i = j :=
  Nat.le_antisymm (asc_le h hi (by omega)) (asc_le h hj (by omega))
/-- What is to be put for a place: nothing, if the two there don't merge. -/
def fit (ms : List Mg4) (L : Ch) (i : Nat) : Option Ent :=
  if i + 1 < L.length then (fnd ms (tk L i) (tk L (i + 1))).map fun k => ((pl L i : Int), ord ms k, (mat ms k).2.2.1) else none
theorem fit_some {ms : List Mg4} {L : Ch} {i : Nat} {x : Ent} (h : fit ms L i = some x) : i + 1 < L.length ∧ ∃ k, fnd ms (tk L i) (tk L (i + 1)) = some k ∧ x = ((pl L i : Int), ord ms k, (mat ms k).2.2.1) := by
  unfold fit at h
  by_cases hi : i + 1 < L.length
  · rw [if_pos hi] at h
    obtain ⟨k, hk, e⟩ := Option.map_eq_some_iff.1 h
    exact ⟨hi, k, hk, e.symm⟩
  · rw [if_neg hi] at h; cases h
theorem fit_of {ms : List Mg4} {L : Ch} {i k : Nat} (hi : i + 1 < L.length) (hk : fnd ms (tk L i) (tk L (i + 1)) = some k) : fit ms L i = some ((pl L i : Int), ord ms k, (mat ms k).2.2.1) := by
  unfold fit; rw [if_pos hi, hk]; rfl
theorem fit_none {ms : List Mg4} {L : Ch} {i : Nat} (h : fnd ms (tk L i) (tk L (i + 1)) = none) : fit ms L i = none := by
  unfold fit; split
  · rw [h]; rfl
  · rfl
theorem fit_last {ms : List Mg4} {L : Ch} {i : Nat} (h : ¬ i + 1 < L.length) : fit ms L i = none := by unfold fit; rw [if_neg h]
theorem fit_place {ms : List Mg4} {L : Ch} {i : Nat} {x : Ent} (h : fit ms L i = some x) : x.1 = pl L i := by
  obtain ⟨_, k, _, rfl⟩ := fit_some h; rfl
/-- An agenda that holds just what may merge. -/
def Agd (ms : List Mg4) (L : Ch) (l : List Ent) : Prop := ∀ x, x ∈ l ↔ ∃ i, fit ms L i = some x
theorem agd_nil {ms : List Mg4} {L : Ch} (h : Agd ms L []) : step ms (toks L) = none := by
  apply step_none
  apply bst_nil
  intro i hi
  rw [toks_len] at hi
  rw [toks_it L (by omega), toks_it L (by omega)]
  cases hf : fnd ms (tk L i) (tk L (i + 1)) with
  | none => rfl
  | some k => exact absurd ((h _).2 ⟨i, fit_of (by omega) hf⟩) (by simp)
/-- The row in which two became one. -/
def mg (L : Ch) (i : Nat) (o : Int) : Ch := L.take i ++ (pl L i, o) :: L.drop (i + 2)
theorem toks_mg (L : Ch) (i : Nat) (o : Int) : toks (mg L i o) = jn (toks L) i o := by simp [toks, mg, jn]
theorem mg_len {L : Ch} {i : Nat} (h : i + 1 < L.length) (o : Int) : (mg L i o).length + 1 = L.length := by simp [mg]; omega
theorem agd_take {ms : List Mg4} {L : Ch} {l : List Ent} {x : Ent} (hA : Asc L) (h : Agd ms L l) (hx : x ∈ l) (hl : ∀ y ∈ l, ¬ lt y x) :
    ∃ i, i + 1 < L.length ∧ fit ms L i = some x ∧ step ms (toks L) = some (toks (mg L i x.2.2)) := by
  obtain ⟨i, hi⟩ := (h x).1 hx
  obtain ⟨hlt, k, hk, rfl⟩ := fit_some hi
  refine ⟨i, hlt, hi, ?_⟩
  rw [toks_mg]
  refine step_some (bst_of ⟨by rw [toks_len]; omega, by rw [toks_it L (by omega), toks_it L (by omega)]; exact hk, fun j k' hj hf => ?_⟩)
  rw [toks_len] at hj
  rw [toks_it L (by omega), toks_it L (by omega)] at hf
  have hn := hl _ ((h _).2 ⟨j, fit_of (by omega) hf⟩)
  unfold lt at hn
  dsimp only at hn
  refine ⟨by omega, fun hji => ?_⟩
  have := asc_lt hA hji (show i < L.length by omega)
  omega
theorem mg_low {L : Ch} {i j : Nat} (o : Int) (hi : i + 1 < L.length) (h : j < i) : (mg L i o).getD j (0, 0) = L.getD j (0, 0) := by
  unfold mg
  rw [List.getD_eq_getElem?_getD, List.getD_eq_getElem?_getD, List.getElem?_append_left (by rw [List.length_take]; omega), List.getElem?_take_of_lt h]
theorem mg_at {L : Ch} {i : Nat} (o : Int) (hi : i + 1 < L.length) : (mg L i o).getD i (0, 0) = (pl L i, o) := by
  unfold mg
  rw [List.getD_eq_getElem?_getD, List.getElem?_append_right (by rw [List.length_take]; omega), List.length_take, Nat.min_eq_left (by omega), Nat.sub_self]
  rfl
theorem mg_high {L : Ch} {i j : Nat} (o : Int) (hi : i + 1 < L.length) (h : i < j) : (mg L i o).getD j (0, 0) = L.getD (j + 1) (0, 0) := by
  unfold mg
  rw [List.getD_eq_getElem?_getD, List.getD_eq_getElem?_getD, List.getElem?_append_right (by rw [List.length_take]; omega), List.length_take, Nat.min_eq_left (by omega)]
  obtain ⟨d, rfl⟩ : ∃ d, j = i + 1 + d := ⟨j - (i + 1), by omega⟩
  rw [show i + 1 + d - i = d + 1 by omega, List.getElem?_cons_succ, List.getElem?_drop, show i + 2 + d = i + 1 + d + 1 by omega]
theorem mg_asc {L : Ch} (h : Asc L) {i : Nat} (hi : i + 1 < L.length) (o : Int) : Asc (mg L i o) := by
  have hg : ∀ j, (mg L i o).getD j (0, 0) = if j < i then L.getD j (0, 0) else if j = i then (pl L i, o) else L.getD (j + 1) (0, 0) := fun j => by
    rcases Nat.lt_trichotomy j i with g | g | g
    · rw [if_pos g, mg_low o hi g]
    · subst g; rw [if_neg (by omega), if_pos rfl, mg_at o hi]
    · rw [if_neg (by omega), if_neg (by omega), mg_high o hi g]
  have hp : ∀ j, pl (mg L i o) j = if j ≤ i then pl L j else pl L (j + 1) := fun j => by
    unfold pl
    rw [hg j]
    rcases Nat.lt_trichotomy j i with g | g | g
    · rw [if_pos g, if_pos (by omega)]
    · subst g; rw [if_neg (by omega), if_pos rfl, if_pos (by omega)]; rfl
    · rw [if_neg (by omega), if_neg (by omega), if_neg (by omega)]
  have hlen := mg_len hi o
  apply List.pairwise_iff_getElem.2
  intro a b ha hb hab
  have e : pl (mg L i o) a < pl (mg L i o) b := by
    rw [hp a, hp b]
    by_cases h1 : b ≤ i
    · rw [if_pos (by omega), if_pos h1]; exact asc_lt h hab (by omega)
    · rw [if_neg h1]
      split
      · exact asc_lt h (by omega) (by omega)
      · exact asc_lt h (by omega) (by omega)
  simpa [pl, ha, hb] using e
/-- What may merge behind a merge: ahead of it and behind it as it was. -/
theorem fit_low (ms : List Mg4) {L : Ch} {i j : Nat} (o : Int) (hi : i + 1 < L.length) (h : j + 1 < i) : fit ms (mg L i o) j = fit ms L j := by
  have hlen := mg_len hi o
  unfold fit tk pl
  rw [mg_low o hi (show j < i by omega), mg_low o hi h, if_pos (by omega), if_pos (by omega)]
theorem fit_high (ms : List Mg4) {L : Ch} {i j : Nat} (o : Int) (hi : i + 1 < L.length) (h : i < j) : fit ms (mg L i o) j = fit ms L (j + 1) := by
  have hlen := mg_len hi o
  unfold fit tk pl
  rw [mg_high o hi h, mg_high o hi (show i < j + 1 by omega)]
  by_cases h2 : j + 1 < (mg L i o).length
  · rw [if_pos h2, if_pos (by omega)]
  · rw [if_neg h2, if_neg (by omega)]
end Pr
end Go.Proofs.Ytcjakjmhghoilaa

/-
  A row that is linked both ways, its numbers, its next and last places told by functions, in plain mathematics. No program is named here.
-/
namespace Go.Proofs.Ytcjakjmhghoilaa
open Go.RowKit
namespace Pr
open Hp (Ent lt wo Dis)
theorem agd_end {ms : List Mg4} {L : Ch} (h : Agd ms L []) : run ms (toks L) = toks L := run_stop (agd_nil h)
theorem pl_mg {L : Ch} {i : Nat} (o : Int) (hi : i + 1 < L.length) (j : Nat) : pl (mg L i o) j = if j ≤ i then pl L j else pl L (j + 1) := by
  unfold pl
  rcases Nat.lt_trichotomy j i with g | g | g
  · rw [mg_low o hi g, if_pos (by omega)]
  · subst g; rw [mg_at o hi, if_pos (by omega)]; rfl
  · rw [mg_high o hi g, if_neg (by omega)]
theorem tk_mg {L : Ch} {i : Nat} (o : Int) (hi : i + 1 < L.length) (j : Nat) : tk (mg L i o) j = if j < i then tk L j else if j = i then o else tk L (j + 1) := by
  unfold tk
  rcases Nat.lt_trichotomy j i with g | g | g
  · rw [mg_low o hi g, if_pos g]
  · subst g; rw [mg_at o hi, if_neg (by omega), if_pos rfl]
  · rw [mg_high o hi g, if_neg (by omega), if_neg (by omega)]
/-- A function, at one place another. -/
def up (f : Nat → Int) (i : Nat) (v : Int) : Nat → Int := fun k => if k = i then v else f k
theorem up_at (f : Nat → Int) (i : Nat) (v : Int) : up f i v i = v := by simp [up]
theorem up_ne (f : Nat → Int) {i k : Nat} (h : k ≠ i) (v : Int) : up f i v k = f k := by simp [up, h]
/-- Linked places: each one's number, the next place (N behind the last one), the last place (z ahead of the first one). -/
structure Lk (L : Ch) (N : Nat) (z : Int) (ids nx ls : Nat → Int) : Prop where
  asc : Asc L
  lt : ∀ i, i < L.length → pl L i < N
  ids : ∀ i, i < L.length → ids (pl L i) = tk L i
  nx : ∀ i, i < L.length → nx (pl L i) = if i + 1 < L.length then (pl L (i + 1) : Int) else N
  ls : ∀ i, i < L.length → ls (pl L i) = if 0 < i then (pl L (i - 1) : Int) else z
theorem Lk.nx_in {L : Ch} {N : Nat} {z : Int} {ids nx ls : Nat → Int} (h : Lk L N z ids nx ls) {i : Nat} (hi : i + 1 < L.length) : nx (pl L i) = pl L (i + 1) := by rw [h.nx i (by omega), if_pos hi]
theorem Lk.nx_end {L : Ch} {N : Nat} {z : Int} {ids nx ls : Nat → Int} (h : Lk L N z ids nx ls) {i : Nat} (hi : i < L.length) (hl : ¬ i + 1 < L.length) : nx (pl L i) = N := by rw [h.nx i hi, if_neg hl]
theorem Lk.nx_lt {L : Ch} {N : Nat} {z : Int} {ids nx ls : Nat → Int} (h : Lk L N z ids nx ls) {i : Nat} (hi : i < L.length) : nx (pl L i) < N ↔ i + 1 < L.length := by
  rw [h.nx i hi]
  by_cases g : i + 1 < L.length
  · rw [if_pos g]; have := h.lt _ g; omega
  · rw [if_neg g]; omega
/-- Two became one: the number is laid, the next place is that behind the one that is gone, and of that the last one. -/
theorem Lk.merge {L : Ch} {N : Nat} {z : Int} {ids nx ls : Nat → Int} (h : Lk L N z ids nx ls) {i : Nat} (hi : i + 1 < L.length) (o : Int) {ls' : Nat → Int} (hls : (i + 2 < L.length ∧ ls' = up ls (pl L (i + 2)) (pl L i)) ∨ (¬ i + 2 < L.length ∧ ls' = ls)) :
    Lk (mg L i o) N z (up ids (pl L i) o) (up nx (pl L i) (nx (pl L (i + 1)))) ls' := by
  have hlen := mg_len hi o
  have hne : ∀ a b, a < L.length → b < L.length → a ≠ b → pl L a ≠ pl L b := fun a b ha hb hab e => hab (asc_inj h.asc ha hb e)
  refine ⟨mg_asc h.asc hi o, fun j hj => ?_, fun j hj => ?_, fun j hj => ?_, fun j hj => ?_⟩
  · rw [pl_mg o hi]
    split
    · exact h.lt _ (by omega)
    · exact h.lt _ (by omega)
  · rw [pl_mg o hi, tk_mg o hi]
    rcases Nat.lt_trichotomy j i with g | g | g
    · rw [if_pos (by omega), if_pos g, up_ne _ (hne _ _ (by omega) (by omega) (by omega)), h.ids _ (by omega)]
    · subst g; rw [if_pos (by omega), if_neg (by omega), if_pos rfl, up_at]
    · rw [if_neg (by omega), if_neg (by omega), if_neg (by omega), up_ne _ (hne _ _ (by omega) (by omega) (by omega)), h.ids _ (by omega)]
  · rw [pl_mg o hi, pl_mg o hi]
    rcases Nat.lt_trichotomy j i with g | g | g
    · rw [if_pos (by omega), up_ne _ (hne _ _ (by omega) (by omega) (by omega)), h.nx _ (by omega), if_pos (by omega), if_pos (by omega), if_pos (by omega)]
    · subst g
      rw [if_pos (Nat.le_refl _), up_at, h.nx _ hi, if_neg (show ¬ j + 1 ≤ j by omega)]
      by_cases g2 : j + 1 + 1 < L.length
      · rw [if_pos g2, if_pos (show j + 1 < (mg L j o).length by omega)]
      · rw [if_neg g2, if_neg (show ¬ j + 1 < (mg L j o).length by omega)]
    · rw [if_neg (show ¬ j ≤ i by omega), up_ne _ (hne _ _ (by omega) (by omega) (by omega)), h.nx _ (by omega), if_neg (show ¬ j + 1 ≤ i by omega)]
      by_cases g2 : j + 1 + 1 < L.length
      · rw [if_pos g2, if_pos (show j + 1 < (mg L i o).length by omega)]
      · rw [if_neg g2, if_neg (show ¬ j + 1 < (mg L i o).length by omega)]
  · rw [pl_mg o hi, pl_mg o hi]
    rcases Nat.lt_trichotomy j (i + 1) with g | g | g
    · have e : ls' (pl L j) = ls (pl L j) := by
        rcases hls with ⟨g2, rfl⟩ | ⟨_, rfl⟩
        · rw [up_ne _ (hne _ _ (by omega) (by omega) (by omega))]
        · rfl
      rw [if_pos (show j ≤ i by omega), e, h.ls _ (by omega), if_pos (show j - 1 ≤ i by omega)]
    · subst g
      rcases hls with ⟨g2, rfl⟩ | ⟨g2, _⟩
      · rw [if_neg (show ¬ i + 1 ≤ i by omega), up_at, if_pos (show 0 < i + 1 by omega), Nat.add_sub_cancel, if_pos (Nat.le_refl _)]
      · omega
    · have e : ls' (pl L (j + 1)) = ls (pl L (j + 1)) := by
        rcases hls with ⟨g2, rfl⟩ | ⟨_, rfl⟩
        · rw [up_ne _ (hne _ _ (by omega) (by omega) (by omega))]
        · rfl
      rw [if_neg (show ¬ j ≤ i by omega), e, h.ls _ (by omega), if_pos (show 0 < j + 1 by omega), if_pos (show 0 < j by omega), if_neg (show ¬ j - 1 ≤ i by omega), Nat.add_sub_cancel, show j - 1 + 1 = j by omega]
/-- Each place at first. -/
def ch0 (xs : Row) : Ch := (List.range xs.length).map fun i => (i, it xs i)
theorem ch0_len (xs : Row) : (ch0 xs).length = xs.length := by simp [ch0]
theorem ch0_pl (xs : Row) {i : Nat} (h : i < xs.length) : pl (ch0 xs) i = i := by simp [pl, ch0, h]
theorem ch0_tk (xs : Row) {i : Nat} (h : i < xs.length) : tk (ch0 xs) i = it xs i := by simp [tk, ch0, h]
theorem ch0_toks (xs : Row) : toks (ch0 xs) = xs := by
  apply List.ext_getElem
  · simp [toks, ch0]
  · intro i h1 h2
    simp [toks, ch0, it, h2]
theorem ch0_asc (xs : Row) : Asc (ch0 xs) := by
  apply List.pairwise_iff_getElem.2
  intro a b ha hb hab
  simpa [ch0] using hab
theorem lk0 (xs : Row) {N : Nat} {z : Int} {ids nx ls : Nat → Int} (hN : N = xs.length) (h1 : ∀ i, i < N → ids i = it xs i) (h2 : ∀ i, i < N → nx i = (i : Int) + 1) (h3 : ∀ i, i < N → ls i = if 0 < i then (i : Int) - 1 else z) : Lk (ch0 xs) N z ids nx ls := by
  subst hN
  refine ⟨ch0_asc xs, fun i hi => ?_, fun i hi => ?_, fun i hi => ?_, fun i hi => ?_⟩ <;> rw [ch0_len] at hi
  · rw [ch0_pl xs hi]; exact hi
  · rw [ch0_pl xs hi, ch0_tk xs hi]; exact h1 i hi
  · rw [ch0_pl xs hi, ch0_len, h2 i hi]
    by_cases g : i + 1 < xs.length
    · rw [if_pos g, ch0_pl xs g]; omega
    · rw [if_neg g]; omega
  · rw [ch0_pl xs hi, h3 i hi]
    by_cases g : 0 < i
    · rw [if_pos g, if_pos g, ch0_pl xs (by omega)]; omega
    · rw [if_neg g, if_neg g]
end Pr
end Go.Proofs.Ytcjakjmhghoilaa
