/-
  Several texts in one: ScMath, ScMathB, ScMathC, ScMathD, ScMathE, ScUtf, ScLaw, ScLawB.
-/
import Derived.Test.YtiheagkgpbkkfaaDoorLotG
import Derived.Test.YtiheagkgpbkkfaaDoorLotU
/-
  How texts are cut, in plain mathematics: over a row of points and their classes (cl). No program is named here.
-/
namespace Go.Proofs.YtiheagkgpbkkfaaDoor
set_option linter.unusedVariables false
namespace Sc

/-! ### in a row -/
/-- How many stand in a row at the front. -/
def tw (q : Int → Bool) : List Int → Nat
  | [] => 0
  | p :: l => if q p = true then tw q l + 1 else 0
theorem tw_le (q : Int → Bool) : ∀ l, tw q l ≤ l.length
  | [] => Nat.le_refl _
  | p :: l => by
    have := tw_le q l
    unfold tw
    split <;> simp only [List.length_cons] <;> omega
theorem tw_cons_yes {q : Int → Bool} {p : Int} {l : List Int} (h : q p = true) : tw q (p :: l) = tw q l + 1 := by rw [tw, if_pos h]
theorem tw_cons_no {q : Int → Bool} {p : Int} {l : List Int} (h : q p = false) : tw q (p :: l) = 0 := by rw [tw, if_neg (by rw [h]; decide)]
/-- Two rows that begin alike. -/
def Like (k : Nat) (l m : List Int) : Prop := k ≤ l.length ∧ k ≤ m.length ∧ ∀ i, i < k → l[i]? = m[i]?
theorem Like.symm {k : Nat} {l m : List Int} (h : Like k l m) : Like k m l := ⟨h.2.1, h.1, fun i hi => (h.2.2 i hi).symm⟩
theorem Like.le {k j : Nat} {l m : List Int} (h : Like k l m) (hj : j ≤ k) : Like j l m := ⟨Nat.le_trans hj h.1, Nat.le_trans hj h.2.1, fun i hi => h.2.2 i (by omega)⟩
theorem Like.cons {k : Nat} {p q : Int} {l m : List Int} (h : Like (k + 1) (p :: l) (q :: m)) : p = q ∧ Like k l m := by
  obtain ⟨h1, h2, h3⟩ := h
  refine ⟨by simpa using h3 0 (by omega), by simpa using h1, by simpa using h2, fun i hi => ?_⟩
  simpa using h3 (i + 1) (by omega)
theorem Like.ne {k : Nat} {l m : List Int} (h : Like (k + 1) l m) : ∃ p l' m', l = p :: l' ∧ m = p :: m' ∧ Like k l' m' := by
  match l, m, h with
  | [], _, h => have := h.1; simp at this
  | _ :: _, [], h => have := h.2.1; simp at this
  | p :: l, q :: m, h =>
    obtain ⟨rfl, h'⟩ := h.cons
    exact ⟨p, l, m, rfl, rfl, h'⟩
theorem Like.drop {k j : Nat} : ∀ {l m : List Int}, Like (j + k) l m → Like k (l.drop j) (m.drop j) := by
  induction j with
  | zero => intro l m h; simpa using h
  | succ j ih =>
    intro l m h
    obtain ⟨p, l', m', rfl, rfl, h'⟩ := Like.ne (show Like ((j + k) + 1) l m from by rw [show j + k + 1 = j + 1 + k by omega]; exact h)
    simpa using ih h'
theorem tw_stays {q : Int → Bool} : ∀ {k : Nat} {l m : List Int}, Like k l m → tw q l < k → tw q m = tw q l
  | 0, _, _, _, h => by omega
  | k + 1, l, m, hk, h => by
    obtain ⟨p, l', m', rfl, rfl, h'⟩ := hk.ne
    cases hq : q p with
    | true =>
      rw [tw_cons_yes hq] at h ⊢
      rw [tw_cons_yes hq, tw_stays h' (by omega)]
    | false => rw [tw_cons_no hq, tw_cons_no hq]
theorem tw_ge {q : Int → Bool} : ∀ {k j : Nat} {l m : List Int}, Like k l m → j ≤ k → j ≤ tw q l → j ≤ tw q m
  | _, 0, _, _, _, _, _ => Nat.zero_le _
  | 0, j + 1, _, _, _, hj, _ => by omega
  | k + 1, j + 1, l, m, hk, hj, h => by
    obtain ⟨p, l', m', rfl, rfl, h'⟩ := hk.ne
    cases hq : q p with
    | true =>
      rw [tw_cons_yes hq] at h ⊢
      have := tw_ge (q := q) (k := k) (j := j) h' (by omega) (by omega)
      omega
    | false => rw [tw_cons_no hq] at h; omega
/-! ### the pieces -/
/-- Is a point this small letter, or, if wide, the capital one? -/
def eqw (wide : Bool) (p x : Int) : Bool := p == x || (wide && p == x - 32)
/-- An ending's points; 0. -/
def ending (wide : Bool) : List Int → Nat
  | a :: b :: r =>
    if a = 39 then
      if (eqw wide b 115 || eqw wide b 116 || eqw wide b 109 || eqw wide b 100) = true then 2
      else match r with
        | c :: _ => if (eqw wide b 114 && eqw wide c 101 || eqw wide b 118 && eqw wide c 101 || eqw wide b 108 && eqw wide c 108) = true then 3 else 0
        | [] => 0
    else 0
  | _ => 0
/-- Is a letter the first one of two? -/
def two (wide : Bool) (b : Int) : Bool := eqw wide b 114 || eqw wide b 118 || eqw wide b 108
/-- Are so many sure points just a first part of an ending? -/
def begun (wide : Bool) (sure : Nat) : List Int → Bool
  | a :: r => a == 39 && (sure == 1 || (sure == 2 && match r with | b :: _ => two wide b | [] => false))
  | [] => false
section
variable (cl : Int → Int)
def isC (c p : Int) : Bool := cl p == c
def isS (p : Int) : Bool := cl p == 3 || cl p == 4
def rn (c : Int) (l : List Int) : Nat := tw (isC cl c) l
def sp (l : List Int) : Nat := tw (isS cl) l
/-- A row of a class, a blank ahead. -/
def led (c : Int) (l : List Int) : Nat := if l.head? = some 32 ∧ 0 < rn cl c (l.drop 1) then 1 + rn cl c (l.drop 1) else rn cl c l
def more (n : Nat) : Nat × Nat := (n, n + 1)
def blanks (l : List Int) : Nat × Nat := if sp cl l < l.length ∧ 2 ≤ sp cl l then (sp cl l - 1, sp cl l + 1) else more (sp cl l)
def plain (l : List Int) : Nat × Nat :=
  if 0 < ending false l then (ending false l, ending false l)
  else if 0 < led cl 1 l then more (led cl 1 l)
  else if 0 < led cl 2 l then more (led cl 2 l)
  else if 0 < led cl 0 l then more (led cl 0 l)
  else blanks cl l
/-- Behind the last Line of the first n points; 0. -/
def lastL : Nat → List Int → Nat
  | 0, _ => 0
  | _, [] => 0
  | n + 1, p :: l => if 0 < lastL n l then lastL n l + 1 else if cl p = 4 then 1 else 0
def headC (l : List Int) : Int := match l with | p :: _ => cl p | [] => 0
def wide (l : List Int) : Nat × Nat :=
  if 0 < ending true l then (ending true l, ending true l)
  else if headC cl l = 1 then more (rn cl 1 l)
  else if (headC cl l ≠ 2 ∧ headC cl l ≠ 4) ∧ 0 < rn cl 1 (l.drop 1) then more (1 + rn cl 1 (l.drop 1))
  else if 3 ≤ rn cl 2 l then (3, 3)
  else if 0 < rn cl 2 l then more (rn cl 2 l)
  else if 0 < led cl 0 l then more (led cl 0 l + rn cl 4 (l.drop (led cl 0 l)))
  else if 0 < lastL cl (sp cl l) l then (lastL cl (sp cl l) l, sp cl l + 1)
  else blanks cl l
def isN (p : Int) : Bool := cl p != 3 && cl p != 4
def word (l : List Int) : Nat × Nat := more (sp cl l + tw (isN cl) (l.drop (sp cl l)))
/-- The first piece by a kind (1, 2, else 3), and its reach. -/
def piece (kind : Nat) (l : List Int) : Nat × Nat := if kind = 1 then word cl l else if kind = 2 then plain cl l else wide cl l
/-- Is it decided, of so many sure points? -/
def Dec (kind : Nat) (sure : Nat) (l : List Int) : Prop := (piece cl kind l).2 ≤ sure ∧ (kind = 1 ∨ begun (kind == 3) sure l = false)
end
/-! ### what is decided stays -/
section
variable {cl : Int → Int} {k : Nat} {l m : List Int}
theorem rn_stays {c : Int} (h : Like k l m) (h1 : rn cl c l < k) : rn cl c m = rn cl c l := tw_stays h h1
theorem rn_ge {c : Int} {j : Nat} (h : Like k l m) (hj : j ≤ k) (h1 : j ≤ rn cl c l) : j ≤ rn cl c m := tw_ge h hj h1
theorem sp_stays (h : Like k l m) (h1 : sp cl l < k) : sp cl m = sp cl l := tw_stays h h1
theorem led_stays {c : Int} (h : Like k l m) (h1 : led cl c l < k) (h2 : 2 ≤ k) : led cl c m = led cl c l := by
  obtain ⟨j, rfl⟩ : ∃ j, k = j + 1 := ⟨k - 1, by omega⟩
  obtain ⟨p, l', m', rfl, rfl, h'⟩ := h.ne
  unfold led at h1 ⊢
  simp only [List.head?_cons, List.drop_succ_cons, List.drop_zero, Option.some.injEq] at h1 ⊢
  by_cases hp : p = 32
  · by_cases hr : 0 < rn cl c l'
    · rw [if_pos ⟨hp, hr⟩] at h1
      have e : rn cl c m' = rn cl c l' := rn_stays h' (by omega)
      rw [e, if_pos ⟨hp, hr⟩, if_pos ⟨hp, hr⟩]
    · rw [if_neg (fun e => hr e.2)] at h1
      have e : rn cl c m' = rn cl c l' := rn_stays h' (by omega)
      rw [e, if_neg (fun e => hr e.2), if_neg (fun e => hr e.2)]
      exact rn_stays h h1
  · rw [if_neg (fun e => hp e.1)] at h1
    rw [if_neg (fun e => hp e.1), if_neg (fun e => hp e.1)]
    exact rn_stays h h1
theorem led_zero {c : Int} (h : Like k l m) (h0 : ¬ 0 < led cl c l) (h2 : 2 ≤ k) : ¬ 0 < led cl c m := by
  rw [led_stays h (by omega) h2]; exact h0
theorem ending_le (w : Bool) (l : List Int) : ending w l ≤ 3 := by
  unfold ending
  split
  · split
    · split
      · omega
      · split
        · split <;> omega
        · omega
    · omega
  · omega
/-- An ending that is there stays; none that might become one, if not just a first part is there. -/
theorem ending_stays {w : Bool} (h : Like k l m) (h2 : 2 ≤ k) (hR : ending w l ≤ k) (hb : begun w k l = false) : ending w m = ending w l := by
  obtain ⟨j, rfl⟩ : ∃ j, k = (j + 1) + 1 := ⟨k - 2, by omega⟩
  obtain ⟨a, l1, m1, rfl, rfl, h1⟩ := h.ne
  obtain ⟨b, l2, m2, rfl, rfl, h3⟩ := h1.ne
  unfold ending at hR ⊢
  by_cases ha : a = 39
  · simp only [ha, if_true] at hR ⊢
    by_cases hs : (eqw w b 115 || eqw w b 116 || eqw w b 109 || eqw w b 100) = true
    · simp only [hs, if_true]
    · have hs' : (eqw w b 115 || eqw w b 116 || eqw w b 109 || eqw w b 100) = false := by simpa using hs
      simp only [hs', Bool.false_eq_true, if_false] at hR ⊢
      cases j with
      | zero =>
        -- just two sure points: the second one begins no ending of three
        have ht : two w b = false := by
          unfold begun at hb
          simpa [ha] using hb
        unfold two at ht
        simp only [Bool.or_eq_false_iff] at ht
        cases l2 with
        | nil => cases m2 with
          | nil => rfl
          | cons c m2 => simp [ht.1.1, ht.1.2, ht.2]
        | cons c l2 => cases m2 with
          | nil => simp [ht.1.1, ht.1.2, ht.2]
          | cons d m2 => simp [ht.1.1, ht.1.2, ht.2]
      | succ j =>
        obtain ⟨c, l3, m3, rfl, rfl, _⟩ := h3.ne
        rfl
  · simp only [ha, if_false]
theorem lastL_stays : ∀ {n k : Nat} {l m : List Int}, Like k l m → n ≤ k → lastL cl n m = lastL cl n l
  | 0, _, _, _, _, _ => by unfold lastL; rfl
  | n + 1, k, l, m, h, hn => by
    obtain ⟨j, rfl⟩ : ∃ j, k = j + 1 := ⟨k - 1, by omega⟩
    obtain ⟨p, l', m', rfl, rfl, h'⟩ := h.ne
    unfold lastL
    rw [lastL_stays h' (by omega)]
theorem lastL_le : ∀ (n : Nat) (l : List Int), lastL cl n l ≤ n
  | 0, _ => by unfold lastL; omega
  | n + 1, [] => by unfold lastL; omega
  | n + 1, p :: l => by
    have := lastL_le n l
    unfold lastL
    split
    · omega
    · split <;> omega
theorem blanks_stays (h : Like k l m) (hR : (blanks cl l).2 ≤ k) (h2 : 2 ≤ k) : blanks cl m = blanks cl l := by
  have hs : sp cl l < k := by
    unfold blanks at hR
    split at hR
    · simp only at hR; omega
    · simp only [more] at hR; omega
  have e : sp cl m = sp cl l := sp_stays h hs
  have h1 := h.1
  have h3 := h.2.1
  unfold blanks
  rw [e]
  by_cases hn : 2 ≤ sp cl l
  · rw [if_pos ⟨by omega, hn⟩, if_pos ⟨by omega, hn⟩]
  · rw [if_neg (fun e => hn e.2), if_neg (fun e => hn e.2)]
theorem plain_stays (h : Like k l m) (h2 : 2 ≤ k) (hb : begun false k l = false) (hR : (plain cl l).2 ≤ k) : plain cl m = plain cl l := by
  by_cases e0 : 0 < ending false l
  · have hE : plain cl l = (ending false l, ending false l) := by unfold plain; rw [if_pos e0]
    rw [hE] at hR ⊢
    have e := ending_stays h h2 hR hb
    unfold plain
    rw [e, if_pos e0]
  · have hz : ending false l = 0 := by omega
    have e := ending_stays h h2 (by omega) hb
    have e0' : ¬ 0 < ending false m := by omega
    unfold plain at hR ⊢
    rw [if_neg e0] at hR ⊢
    rw [if_neg e0']
    by_cases c1 : 0 < led cl 1 l
    · rw [if_pos c1] at hR ⊢
      simp only [more] at hR
      rw [led_stays h (by omega) h2, if_pos c1]
    · rw [if_neg c1] at hR ⊢
      rw [if_neg (led_zero h c1 h2)]
      by_cases c2 : 0 < led cl 2 l
      · rw [if_pos c2] at hR ⊢
        simp only [more] at hR
        rw [led_stays h (by omega) h2, if_pos c2]
      · rw [if_neg c2] at hR ⊢
        rw [if_neg (led_zero h c2 h2)]
        by_cases c3 : 0 < led cl 0 l
        · rw [if_pos c3] at hR ⊢
          simp only [more] at hR
          rw [led_stays h (by omega) h2, if_pos c3]
        · rw [if_neg c3] at hR ⊢
          rw [if_neg (led_zero h c3 h2)]
          exact blanks_stays h hR h2
theorem headC_like (h : Like k l m) (h2 : 1 ≤ k) : headC cl m = headC cl l := by
  obtain ⟨j, rfl⟩ : ∃ j, k = j + 1 := ⟨k - 1, by omega⟩
  obtain ⟨p, l', m', rfl, rfl, h'⟩ := h.ne
  rfl
theorem wide_stays (h : Like k l m) (h2 : 2 ≤ k) (hb : begun true k l = false) (hR : (wide cl l).2 ≤ k) : wide cl m = wide cl l := by
  have hd : Like (k - 1) (l.drop 1) (m.drop 1) := Like.drop (by rw [show 1 + (k - 1) = k by omega]; exact h)
  have hH := headC_like (cl := cl) h (by omega)
  by_cases e0 : 0 < ending true l
  · have hE : wide cl l = (ending true l, ending true l) := by unfold wide; rw [if_pos e0]
    rw [hE] at hR ⊢
    have e := ending_stays h h2 hR hb
    unfold wide
    rw [e, if_pos e0]
  · have hz : ending true l = 0 := by omega
    have e := ending_stays h h2 (by omega) hb
    have e0' : ¬ 0 < ending true m := by omega
    unfold wide at hR ⊢
    rw [if_neg e0] at hR ⊢
    rw [if_neg e0', hH]
    by_cases c1 : headC cl l = 1
    · rw [if_pos c1] at hR ⊢
      rw [if_pos c1]
      simp only [more] at hR
      rw [rn_stays h (by omega)]
    · rw [if_neg c1] at hR ⊢
      rw [if_neg c1]
      by_cases c2 : (headC cl l ≠ 2 ∧ headC cl l ≠ 4) ∧ 0 < rn cl 1 (l.drop 1)
      · rw [if_pos c2] at hR ⊢
        simp only [more] at hR
        have e1 : rn cl 1 (m.drop 1) = rn cl 1 (l.drop 1) := rn_stays hd (by omega)
        rw [e1, if_pos c2]
      · rw [if_neg c2] at hR ⊢
        have c2' : ¬ ((headC cl l ≠ 2 ∧ headC cl l ≠ 4) ∧ 0 < rn cl 1 (m.drop 1)) := fun hc => by
          by_cases h0 : 0 < rn cl 1 (l.drop 1)
          · exact c2 ⟨hc.1, h0⟩
          · have e1 : rn cl 1 (m.drop 1) = rn cl 1 (l.drop 1) := rn_stays hd (by omega)
            rw [e1] at hc
            exact h0 hc.2
        rw [if_neg c2']
        by_cases c3 : 3 ≤ rn cl 2 l
        · rw [if_pos c3] at hR ⊢
          rw [if_pos (rn_ge h (by simpa using hR) c3)]
        · rw [if_neg c3] at hR ⊢
          have e3 : rn cl 2 m = rn cl 2 l := by
            by_cases c4 : 0 < rn cl 2 l
            · rw [if_pos c4] at hR
              simp only [more] at hR
              exact rn_stays h (by omega)
            · exact rn_stays h (by omega)
          rw [e3, if_neg c3]
          by_cases c4 : 0 < rn cl 2 l
          · rw [if_pos c4, if_pos c4]
          · rw [if_neg c4] at hR ⊢
            rw [if_neg c4]
            by_cases c5 : 0 < led cl 0 l
            · rw [if_pos c5] at hR ⊢
              simp only [more] at hR
              have e5 := led_stays (cl := cl) (c := 0) h (by omega) h2
              rw [e5, if_pos c5]
              have hd2 : Like (k - led cl 0 l) (l.drop (led cl 0 l)) (m.drop (led cl 0 l)) := Like.drop (by rw [show led cl 0 l + (k - led cl 0 l) = k by omega]; exact h)
              rw [show rn cl 4 (m.drop (led cl 0 l)) = rn cl 4 (l.drop (led cl 0 l)) from rn_stays (c := 4) hd2 (by omega)]
            · rw [if_neg c5] at hR ⊢
              rw [if_neg (led_zero h c5 h2)]
              by_cases c6 : 0 < lastL cl (sp cl l) l
              · rw [if_pos c6] at hR ⊢
                simp only at hR
                have e6 : sp cl m = sp cl l := sp_stays h (by omega)
                have e7 : lastL cl (sp cl l) m = lastL cl (sp cl l) l := lastL_stays h (by omega)
                rw [e6, e7, if_pos c6]
              · rw [if_neg c6] at hR ⊢
                have hs : sp cl l < k := by
                  unfold blanks at hR
                  split at hR
                  · simp only at hR; omega
                  · simp only [more] at hR; omega
                have e6 : sp cl m = sp cl l := sp_stays h hs
                have e7 : lastL cl (sp cl l) m = lastL cl (sp cl l) l := lastL_stays h (by omega)
                rw [e6, e7, if_neg c6]
                exact blanks_stays h hR h2
theorem word_stays (h : Like k l m) (hR : (word cl l).2 ≤ k) : word cl m = word cl l := by
  unfold word at hR ⊢
  simp only [more] at hR
  have e : sp cl m = sp cl l := sp_stays h (by omega)
  have hd : Like (k - sp cl l) (l.drop (sp cl l)) (m.drop (sp cl l)) := Like.drop (by rw [show sp cl l + (k - sp cl l) = k by omega]; exact h)
  rw [e, show tw (isN cl) (m.drop (sp cl l)) = tw (isN cl) (l.drop (sp cl l)) from tw_stays hd (by omega)]
end
end Sc
end Go.Proofs.YtiheagkgpbkkfaaDoor

/-
  How texts are cut, in plain mathematics: few pieces are open.
-/
namespace Go.Proofs.YtiheagkgpbkkfaaDoor
set_option linter.unusedVariables false
namespace Sc
theorem tw_all {q : Int → Bool} : ∀ {a T : List Int}, (∀ p ∈ a, q p = true) → tw q (a ++ T) = a.length + tw q T
  | [], T, _ => by simp
  | p :: a, T, h => by
    rw [List.cons_append, tw_cons_yes (h p (by simp)), tw_all (fun x hx => h x (by simp [hx]))]
    simp only [List.length_cons]; omega
theorem tw_cap {q : Int → Bool} : ∀ {a T : List Int}, (∀ p ∈ T, q p = false) → tw q (a ++ T) = tw q a
  | [], [], _ => rfl
  | [], p :: T, h => by rw [List.nil_append, tw_cons_no (h p (by simp))]; rfl
  | p :: a, T, h => by
    cases hq : q p with
    | true => rw [List.cons_append, tw_cons_yes hq, tw_cons_yes hq, tw_cap h]
    | false => rw [List.cons_append, tw_cons_no hq, tw_cons_no hq]
theorem tw_full {q : Int → Bool} : ∀ {a : List Int}, tw q a = a.length → ∀ p ∈ a, q p = true
  | [], _, p, hp => by cases hp
  | x :: a, h, p, hp => by
    cases hq : q x with
    | true =>
      rw [tw_cons_yes hq] at h
      rcases List.mem_cons.1 hp with rfl | hp
      · exact hq
      · exact tw_full (by simpa using h) p hp
    | false =>
      rw [tw_cons_no hq] at h
      simp at h
/-- What is wanted of classes: those of the usual table. -/
structure Us (cl : Int → Int) : Prop where
  rg : ∀ p, 0 ≤ cl p ∧ cl p ≤ 4
  neg : cl (-1) = 0
  q : cl 39 = 0
  blank : cl 32 = 3
  let' : ∀ w b, two w b = true → cl b = 1
  a : cl 97 = 1
  one : cl 49 = 2
  ex : cl 33 = 0
  nl : cl 10 = 4
section
variable {cl : Int → Int} {kind : Nat}
/-- No more pieces than so many. -/
def Np (cl : Int → Int) (kind : Nat) : Nat → List Int → Prop
  | 0, l => l = []
  | n + 1, l => l = [] ∨ Np cl kind n (l.drop (piece cl kind l).1)
theorem np_nil (n : Nat) : Np cl kind n [] := by cases n with | zero => rfl | succ n => exact .inl rfl
theorem np_step {n : Nat} {l : List Int} (h : Np cl kind n (l.drop (piece cl kind l).1)) : Np cl kind (n + 1) l := .inr h
theorem np_mono : ∀ {n m : Nat} {l : List Int}, n ≤ m → Np cl kind n l → Np cl kind m l
  | 0, m, l, _, h => by obtain rfl : l = [] := h; exact np_nil m
  | n + 1, 0, l, hm, _ => by omega
  | n + 1, m + 1, l, hm, h => by
    rcases h with rfl | h
    · exact np_nil _
    · exact .inr (np_mono (by omega) h)
/-! ### points that are none -/
def no (k : Nat) : List Int := List.replicate k (-1)
theorem no_mem {k : Nat} {p : Int} (h : p ∈ no k) : p = -1 := (List.mem_replicate.1 h).2
theorem no_drop (k j : Nat) : (no k).drop j = no (k - j) := by unfold no; rw [List.drop_replicate]
theorem isC_no (U : Us cl) {c : Int} (hc : c ≠ 0) {k : Nat} : ∀ p ∈ no k, isC cl c p = false := fun p hp => by
  rw [no_mem hp]; unfold isC; rw [U.neg]; simp; omega
theorem isC0_no (U : Us cl) {k : Nat} : ∀ p ∈ no k, isC cl 0 p = true := fun p hp => by
  rw [no_mem hp]; unfold isC; rw [U.neg]; rfl
theorem isS_no (U : Us cl) {k : Nat} : ∀ p ∈ no k, isS cl p = false := fun p hp => by
  rw [no_mem hp]; unfold isS; rw [U.neg]; rfl
theorem isN_no (U : Us cl) {k : Nat} : ∀ p ∈ no k, isN cl p = true := fun p hp => by
  rw [no_mem hp]; unfold isN; rw [U.neg]; rfl
theorem rn_app (U : Us cl) {c : Int} (hc : c ≠ 0) (a : List Int) (k : Nat) : rn cl c (a ++ no k) = rn cl c a := tw_cap (isC_no U hc)
theorem sp_app (U : Us cl) (a : List Int) (k : Nat) : sp cl (a ++ no k) = sp cl a := tw_cap (isS_no U)
theorem rn_no (U : Us cl) {c : Int} (hc : c ≠ 0) (k : Nat) : rn cl c (no k) = 0 := by have := rn_app U hc [] k; simpa [rn, tw] using this
theorem rn0_no (U : Us cl) (k : Nat) : rn cl 0 (no k) = k := by
  have := tw_all (q := isC cl 0) (a := no k) (T := []) (isC0_no U)
  simpa [rn, tw, no] using this
theorem no_head {k : Nat} : (no k).head? ≠ some 32 := by
  cases k with
  | zero => simp [no]
  | succ k => simp [no, List.replicate_succ]
theorem led_no (U : Us cl) {c : Int} (k : Nat) : led cl c (no k) = rn cl c (no k) := by unfold led; rw [if_neg (fun e => no_head e.1)]
theorem ending_no {w : Bool} (k : Nat) : ending w (no k) = 0 := by
  match k with
  | 0 => rfl
  | 1 => rfl
  | k + 2 => simp [no, List.replicate_succ, ending]
theorem headC_no (U : Us cl) {k : Nat} (hk : 0 < k) : headC cl (no k) = 0 := by
  cases k with
  | zero => omega
  | succ k => exact U.neg
theorem np_no (U : Us cl) (k : Nat) : Np cl kind 1 (no k) := by
  cases k with
  | zero => exact np_nil 1
  | succ k =>
    refine np_step ?_
    have h : (piece cl kind (no (k + 1))).1 = k + 1 := by
      unfold piece
      split
      · unfold word
        have e : sp cl (no (k + 1)) = 0 := by have := sp_app U [] (k + 1); simpa [sp, tw] using this
        rw [e]
        have e2 := tw_all (q := isN cl) (a := no (k + 1)) (T := []) (isN_no U)
        simp only [more, List.drop_zero, Nat.zero_add]
        simpa [tw, no] using e2
      · split
        · unfold plain
          rw [ending_no, led_no U, led_no U, led_no U, rn_no U (by decide), rn_no U (by decide), rn0_no U, if_neg (by omega), if_neg (by omega), if_neg (by omega), if_pos (by omega)]
          rfl
        · unfold wide
          rw [ending_no, headC_no U (by omega), led_no U, rn_no U (c := 2) (by decide), rn0_no U, no_drop, no_drop, rn_no U (by decide), rn_no U (by decide), if_neg (by omega), if_neg (by omega), if_neg (by omega), if_neg (by omega), if_neg (by omega), if_pos (by omega), rn_no U (c := 4) (by decide)]
          rfl
    rw [h, no_drop, Nat.sub_self]
    rfl
/-! ### what a piece may be -/
/-- How a piece comes about. -/
def Way (cl : Int → Int) (kind : Nat) (l : List Int) (q : Nat × Nat) : Prop :=
  (∃ (w : Bool) (n : Nat), ending w l = n ∧ w = (kind == 3) ∧ 0 < n ∧ q = (n, n)) ∨ (∃ n : Nat, q = (n, n + 1)) ∨ (sp cl l < l.length ∧ 2 ≤ sp cl l ∧ q = (sp cl l - 1, sp cl l + 1)) ∨
    (3 ≤ rn cl 2 l ∧ q = (3, 3)) ∨ ((kind ≠ 1 ∧ kind ≠ 2) ∧ 0 < lastL cl (sp cl l) l ∧ q = (lastL cl (sp cl l) l, sp cl l + 1))
theorem Way.en {cl : Int → Int} {kind : Nat} {l : List Int} (w : Bool) (n : Nat) (h : ending w l = n) (hw : w = (kind == 3)) (h0 : 0 < n) : Way cl kind l (n, n) := Or.inl ⟨w, n, h, hw, h0, rfl⟩
theorem Way.more {cl : Int → Int} {kind : Nat} {l : List Int} (n : Nat) : Way cl kind l (n, n + 1) := Or.inr (Or.inl ⟨n, rfl⟩)
theorem Way.bl {cl : Int → Int} {kind : Nat} {l : List Int} (h : sp cl l < l.length) (h2 : 2 ≤ sp cl l) : Way cl kind l (sp cl l - 1, sp cl l + 1) := Or.inr (Or.inr (Or.inl ⟨h, h2, rfl⟩))
theorem Way.three {cl : Int → Int} {kind : Nat} {l : List Int} (h : 3 ≤ rn cl 2 l) : Way cl kind l (3, 3) := Or.inr (Or.inr (Or.inr (Or.inl ⟨h, rfl⟩)))
theorem Way.last {cl : Int → Int} {kind : Nat} {l : List Int} (h3 : kind ≠ 1 ∧ kind ≠ 2) (h : 0 < lastL cl (sp cl l) l) : Way cl kind l (lastL cl (sp cl l) l, sp cl l + 1) := Or.inr (Or.inr (Or.inr (Or.inr ⟨h3, h, rfl⟩)))
theorem way_blanks (l : List Int) : Way cl kind l (blanks cl l) := by
  unfold blanks
  split
  · exact .bl (by omega) (by omega)
  · exact .more _
theorem way (l : List Int) (hk : kind = 1 ∨ kind = 2 ∨ kind = 3) : Way cl kind l (piece cl kind l) := by
  unfold piece
  split
  · exact .more _
  · rename_i h1
    split
    · rename_i h2
      unfold plain
      split
      · exact .en false _ rfl (by subst h2; rfl) (by assumption)
      · split
        · exact .more _
        · split
          · exact .more _
          · split
            · exact .more _
            · exact way_blanks l
    · rename_i h2
      have h3 : kind = 3 := by omega
      unfold wide
      split
      · exact .en true _ rfl (by subst h3; rfl) (by assumption)
      · split
        · exact .more _
        · split
          · exact .more _
          · split
            · exact .three (by assumption)
            · split
              · exact .more _
              · split
                · exact .more _
                · split
                  · exact .last ⟨h1, h2⟩ (by assumption)
                  · exact way_blanks l
theorem eqw_neg (w : Bool) : eqw w (-1) 115 = false ∧ eqw w (-1) 116 = false ∧ eqw w (-1) 109 = false ∧ eqw w (-1) 100 = false ∧ eqw w (-1) 101 = false ∧ eqw w (-1) 108 = false := by
  cases w <;> decide
/-- An ending's points are all sure. -/
theorem ending_in {w : Bool} (a : List Int) (k : Nat) (h : 0 < ending w (a ++ no k)) : ending w (a ++ no k) ≤ a.length := by
  have hle := ending_le w (a ++ no k)
  obtain ⟨e1, e2, e3, e4, e5, e6⟩ := eqw_neg w
  match a, h, hle with
  | [], h, _ => rw [List.nil_append, ending_no] at h; omega
  | [x], h, _ =>
    cases k with
    | zero => simp [no, ending] at h
    | succ k =>
      cases k with
      | zero => by_cases hx : x = 39 <;> simp [no, ending, List.replicate_succ, hx, e1, e2, e3, e4] at h
      | succ k =>
        by_cases hx : x = 39
        · simp [no, ending, List.replicate_succ, hx, e1, e2, e3, e4, e5, e6] at h
        · simp [no, ending, List.replicate_succ, hx] at h
  | [x, y], h, hle =>
    by_cases hx : x = 39
    · by_cases hs : (eqw w y 115 || eqw w y 116 || eqw w y 109 || eqw w y 100) = true
      · simp [ending, hx, hs]
      · have hs' : (eqw w y 115 || eqw w y 116 || eqw w y 109 || eqw w y 100) = false := by simpa using hs
        cases k with
        | zero => simp [no, ending, hx, hs'] at h
        | succ k => simp [no, ending, List.replicate_succ, hx, hs', e5, e6] at h
    · simp [ending, hx] at h
  | x :: y :: z :: r, _, hle => simp only [List.length_cons]; omega
/-- A letter ahead of what needs more: two pieces. -/
theorem drop_of_le {a : List Int} {k N : Nat} (h : a.length ≤ N) : (a ++ no k).drop N = no (k - (N - a.length)) := by
  rw [List.drop_append, List.drop_of_length_le h, List.nil_append, no_drop]
/-- A piece that reaches what needs more: two at most; one, if nothing does. -/
theorem np_far (U : Us cl) {a : List Int} {k : Nat} (h : a.length ≤ (piece cl kind (a ++ no k)).1) : Np cl kind (if k = 0 then 1 else 2) (a ++ no k) := by
  by_cases hk : k = 0
  · rw [if_pos hk]
    refine np_step ?_
    rw [drop_of_le h, hk, Nat.zero_sub]
    rfl
  · rw [if_neg hk]
    refine np_step ?_
    rw [drop_of_le h]
    exact np_no U _
end
end Sc
end Go.Proofs.YtiheagkgpbkkfaaDoor

/-
  How texts are cut, in plain mathematics: few pieces are open (what is left behind an open one).
-/
namespace Go.Proofs.YtiheagkgpbkkfaaDoor
set_option linter.unusedVariables false
namespace Sc
section
variable {cl : Int → Int} {kind : Nat}
theorem rn_cons_no {c p : Int} {l : List Int} (h : cl p ≠ c) : rn cl c (p :: l) = 0 := tw_cons_no (by simpa [isC] using h)
theorem rn_cons_yes {c p : Int} {l : List Int} (h : cl p = c) : rn cl c (p :: l) = rn cl c l + 1 := tw_cons_yes (by simpa [isC] using h)
theorem sp_cons_yes {p : Int} {l : List Int} (h : cl p = 3 ∨ cl p = 4) : sp cl (p :: l) = sp cl l + 1 := tw_cons_yes (by simpa [isS] using h)
theorem sp_cons_no {p : Int} {l : List Int} (h : ¬ (cl p = 3 ∨ cl p = 4)) : sp cl (p :: l) = 0 := tw_cons_no (by simpa [isS, not_or] using h)
theorem led_no32 {c p : Int} {l : List Int} (h : p ≠ 32) : led cl c (p :: l) = rn cl c (p :: l) := by unfold led; rw [if_neg (fun e => h (by simpa using e.1))]
theorem led_cons {c p : Int} {l : List Int} (h : ¬ 0 < rn cl c l) : led cl c (p :: l) = rn cl c (p :: l) := by unfold led; rw [if_neg (fun e => h (by simpa using e.2))]
theorem led_32 {c : Int} {l : List Int} (h : 0 < rn cl c l) : led cl c (32 :: l) = 1 + rn cl c l := by unfold led; rw [if_pos ⟨rfl, by simpa using h⟩]; simp
theorem rn_le_led (c : Int) (l : List Int) (h : 0 < rn cl c l) : 0 < led cl c l := by
  unfold led
  split <;> omega
theorem ending_head {w : Bool} {p : Int} {l : List Int} (h : p ≠ 39) : ending w (p :: l) = 0 := by
  cases l with
  | nil => rfl
  | cons x l => simp [ending, h]
theorem ending_ge {w : Bool} {l : List Int} (h : 0 < ending w l) : 2 ≤ ending w l ∧ l.head? = some 39 := by
  match l, h with
  | [], h => simp [ending] at h
  | [x], h => simp [ending] at h
  | x :: y :: r, h =>
    by_cases hx : x = 39
    · refine ⟨?_, by simp [hx]⟩
      unfold ending at h ⊢
      simp only [hx, if_true] at h ⊢
      split
      · omega
      · rename_i hs
        rw [if_neg hs] at h
        cases r with
        | nil => simp at h
        | cons z r =>
          simp only at h ⊢
          split
          · omega
          · rename_i h3
            rw [if_neg h3] at h
            omega
    · simp [ending, hx] at h
theorem begun_le {w : Bool} {sure : Nat} {l : List Int} (h : begun w sure l = true) : l.head? = some 39 ∧ (sure = 1 ∨ (sure = 2 ∧ ∃ b r, l = 39 :: b :: r ∧ two w b = true)) := by
  cases l with
  | nil => simp [begun] at h
  | cons a r =>
    unfold begun at h
    simp only [Bool.and_eq_true, beq_iff_eq, Bool.or_eq_true] at h
    obtain ⟨rfl, h⟩ := h
    refine ⟨rfl, h.imp id (fun ⟨h1, h2⟩ => ⟨h1, ?_⟩)⟩
    cases r with
    | nil => simp at h2
    | cons b r => exact ⟨b, r, rfl, h2⟩
/-! ### every piece has a point, and is within -/
theorem blanks_pos {l : List Int} (h : 0 < sp cl l) : 0 < (blanks cl l).1 := by
  unfold blanks
  split
  · simp only; omega
  · exact h
theorem isSN (p : Int) : isN cl p = !(isS cl p) := by unfold isN isS; simp [bne]
theorem piece_pos0 (hr : ∀ p, 0 ≤ cl p ∧ cl p ≤ 4) {l : List Int} (hl : l ≠ []) : 0 < (piece cl kind l).1 := by
  match l, hl with
  | p :: l, _ =>
    have hr := hr p
    have key : (0 < led cl 1 (p :: l)) ∨ (0 < led cl 2 (p :: l)) ∨ (0 < led cl 0 (p :: l)) ∨ 0 < sp cl (p :: l) := by
      by_cases h1 : cl p = 1
      · exact .inl (rn_le_led _ _ (by rw [rn_cons_yes h1]; omega))
      · by_cases h2 : cl p = 2
        · exact .inr (.inl (rn_le_led _ _ (by rw [rn_cons_yes h2]; omega)))
        · by_cases h0 : cl p = 0
          · exact .inr (.inr (.inl (rn_le_led _ _ (by rw [rn_cons_yes h0]; omega))))
          · exact .inr (.inr (.inr (by rw [sp_cons_yes (by omega)]; omega)))
    unfold piece
    split
    · unfold word
      simp only [more]
      by_cases hs : cl p = 3 ∨ cl p = 4
      · rw [sp_cons_yes hs]; omega
      · rw [sp_cons_no hs]
        have : isN cl p = true := by rw [isSN]; unfold isS; simpa [not_or] using hs
        rw [List.drop_zero, tw_cons_yes this]; omega
    · split
      · unfold plain
        split
        · assumption
        · split
          · assumption
          · split
            · assumption
            · split
              · assumption
              · exact blanks_pos (by omega)
      · unfold wide
        split
        · assumption
        · split
          · rename_i h; exact (show 0 < rn cl 1 (p :: l) by rw [rn_cons_yes h]; omega)
          · rename_i hn1
            split
            · simp only [more]; omega
            · split
              · simp only; omega
              · split
                · assumption
                · rename_i hn2
                  split
                  · simp only [more]; omega
                  · rename_i hn0
                    split
                    · assumption
                    · refine blanks_pos ?_
                      by_cases hs : cl p = 3 ∨ cl p = 4
                      · rw [sp_cons_yes hs]; omega
                      · have h2 : cl p ≠ 2 := fun e => hn2 (by rw [rn_cons_yes e]; omega)
                        have h0 : cl p ≠ 0 := fun e => hn0 (rn_le_led _ _ (by rw [rn_cons_yes e]; omega))
                        have h1 : cl p ≠ 1 := hn1
                        omega
theorem piece_pos (U : Us cl) {l : List Int} (hl : l ≠ []) : 0 < (piece cl kind l).1 := piece_pos0 U.rg hl
/-! ### behind an open piece -/
theorem np_letter (U : Us cl) {x : Int} (hx : cl x = 1) (hk : kind = 2 ∨ kind = 3) (k : Nat) : Np cl kind (if k = 0 then 1 else 2) (x :: no k) := by
  have hx39 : x ≠ 39 := fun e => by rw [e, U.q] at hx; omega
  have hx32 : x ≠ 32 := fun e => by rw [e, U.blank] at hx; omega
  have h : (piece cl kind (x :: no k)).1 = 1 := by
    have e1 : rn cl 1 (x :: no k) = 1 := by rw [rn_cons_yes hx, rn_no U (by decide)]
    unfold piece
    rcases hk with rfl | rfl
    · rw [if_neg (by decide), if_pos rfl]
      unfold plain
      rw [ending_head hx39, if_neg (by omega), led_no32 hx32, e1, if_pos (by omega)]
      rfl
    · rw [if_neg (by decide), if_neg (by decide)]
      unfold wide
      rw [ending_head hx39, if_neg (by omega), if_pos (show headC cl (x :: no k) = 1 from hx), e1]
      rfl
  split
  · rename_i hk0
    subst hk0
    refine np_step ?_
    rw [h]
    rfl
  · refine np_step ?_
    rw [h]
    exact np_no U k
theorem piece_space (U : Us cl) {s : Int} (hs : cl s = 3 ∨ cl s = 4) (hk : kind = 2 ∨ kind = 3) (k : Nat) : (piece cl kind (s :: no k)).1 = if s = 32 ∧ 0 < k then 1 + k else 1 := by
  have hs39 : s ≠ 39 := fun e => by rw [e, U.q] at hs; omega
  have r1 : led cl 1 (s :: no k) = 0 := by rw [led_cons (by rw [rn_no U (by decide)]; omega), rn_cons_no (by omega)]
  have r2 : led cl 2 (s :: no k) = 0 := by rw [led_cons (by rw [rn_no U (by decide)]; omega), rn_cons_no (by omega)]
  have n2 : rn cl 2 (s :: no k) = 0 := rn_cons_no (by omega)
  have hS : sp cl (s :: no k) = 1 := by
    rw [sp_cons_yes hs]
    have := sp_app U [] k
    simp only [List.nil_append] at this
    rw [this]
    rfl
  have r0 : led cl 0 (s :: no k) = if s = 32 ∧ 0 < k then 1 + k else 0 := by
    by_cases h : s = 32 ∧ 0 < k
    · rw [if_pos h, h.1, led_32 (by rw [rn0_no U]; exact h.2), rn0_no U]
    · rw [if_neg h]
      by_cases h32 : s = 32
      · have hk0 : k = 0 := by
          by_cases hk : 0 < k
          · exact absurd ⟨h32, hk⟩ h
          · omega
        rw [led_cons (by rw [rn0_no U]; omega), rn_cons_no (by omega)]
      · rw [led_no32 h32, rn_cons_no (by omega)]
  have hb : (blanks cl (s :: no k)).1 = 1 := by
    unfold blanks
    rw [hS, if_neg (by omega)]
    rfl
  unfold piece
  rcases hk with rfl | rfl
  · rw [if_neg (by decide), if_pos rfl]
    unfold plain
    rw [ending_head hs39, if_neg (by omega), r1, if_neg (by omega), r2, if_neg (by omega), r0]
    by_cases h : s = 32 ∧ 0 < k
    · rw [if_pos h, if_pos (by omega), if_pos h]; rfl
    · rw [if_neg h, if_neg (by omega), if_neg h]; exact hb
  · rw [if_neg (by decide), if_neg (by decide)]
    unfold wide
    rw [ending_head hs39, if_neg (by omega), if_neg (show ¬ headC cl (s :: no k) = 1 from fun e => by have e' : cl s = 1 := e; omega)]
    have d1 : rn cl 1 ((s :: no k).drop 1) = 0 := by rw [List.drop_succ_cons, List.drop_zero, rn_no U (by decide)]
    rw [d1, if_neg (fun e => by omega), n2, if_neg (by omega), if_neg (by omega), r0, hS]
    by_cases h : s = 32 ∧ 0 < k
    · rw [if_pos h, if_pos (by omega), if_pos h]
      have : (s :: no k).drop (1 + k) = [] := List.drop_of_length_le (by simp [no]; omega)
      rw [this]
      rfl
    · rw [if_neg h, if_neg (by omega), if_neg h]
      by_cases h4 : cl s = 4
      · have e : lastL cl 1 (s :: no k) = 1 := by
          unfold lastL
          rw [show lastL cl 0 (no k) = 0 from by unfold lastL; rfl, if_neg (by omega), if_pos h4]
        rw [e, if_pos (by omega)]
      · have e : lastL cl 1 (s :: no k) = 0 := by
          unfold lastL
          rw [show lastL cl 0 (no k) = 0 from by unfold lastL; rfl, if_neg (by omega), if_neg h4]
        rw [e, if_neg (by omega)]
        exact hb
theorem np_space (U : Us cl) {s : Int} (hs : cl s = 3 ∨ cl s = 4) (hk : kind = 2 ∨ kind = 3) (k : Nat) : Np cl kind (if k = 0 then 1 else 2) (s :: no k) := by
  have h := piece_space U hs hk k
  by_cases hk0 : k = 0
  · rw [if_pos hk0]
    refine np_step ?_
    rw [h, if_neg (fun e => by omega), hk0]
    rfl
  · rw [if_neg hk0]
    refine np_step ?_
    rw [h]
    split
    · rw [show (s :: no k).drop (1 + k) = [] from List.drop_of_length_le (by simp [no]; omega)]
      exact np_nil 1
    · exact np_no U k
theorem lastL_none : ∀ {n : Nat} {l : List Int}, (∀ p ∈ l.take n, cl p ≠ 4) → lastL cl n l = 0
  | 0, _, _ => by unfold lastL; rfl
  | n + 1, [], _ => by unfold lastL; rfl
  | n + 1, p :: l, h => by
    unfold lastL
    rw [lastL_none (n := n) (l := l) (fun x hx => h x (by simp [hx])), if_neg (by omega), if_neg (h p (by simp))]
theorem np_spaces (U : Us cl) {b : List Int} (hb : ∀ p ∈ b, cl p = 3) (h0 : b ≠ []) (k : Nat) : Np cl 3 (if k = 0 then 1 else 3) (b ++ no k) := by
  match b, h0, hb with
  | [s], _, hb =>
    have h := np_space (kind := 3) U (s := s) (.inl (hb s (by simp))) (.inr rfl) k
    by_cases hk0 : k = 0
    · rw [if_pos hk0] at h ⊢; exact h
    · rw [if_neg hk0] at h ⊢; exact np_mono (by omega) h
  | s :: t :: b, _, hb =>
    have hs := hb s (by simp)
    have ht := hb t (by simp)
    have hs39 : s ≠ 39 := fun e => by rw [e, U.q] at hs; omega
    have hall : ∀ p ∈ s :: t :: b, isS cl p = true := fun p hp => by unfold isS; rw [hb p hp]; rfl
    have hS : sp cl ((s :: t :: b) ++ no k) = b.length + 2 := by
      unfold sp
      rw [tw_all hall]
      have := sp_app U [] k
      simp only [List.nil_append] at this
      have e : tw (isS cl) (no k) = 0 := this.trans rfl
      rw [e]
      rfl
    have hN : (piece cl 3 ((s :: t :: b) ++ no k)).1 = if k = 0 then b.length + 2 else b.length + 1 := by
      unfold piece
      rw [if_neg (by decide), if_neg (by decide)]
      unfold wide
      rw [List.cons_append, ending_head hs39, if_neg (by omega), if_neg (show ¬ headC cl (s :: (t :: b ++ no k)) = 1 from fun e => by have e' : cl s = 1 := e; omega)]
      have d1 : rn cl 1 ((s :: (t :: b ++ no k)).drop 1) = 0 := by rw [List.drop_succ_cons, List.drop_zero, List.cons_append, rn_cons_no (by omega)]
      have n2 : rn cl 2 (s :: (t :: b ++ no k)) = 0 := rn_cons_no (by omega)
      have l0 : led cl 0 (s :: (t :: b ++ no k)) = 0 := by
        rw [led_cons (by rw [List.cons_append, rn_cons_no (by omega)]; omega), rn_cons_no (by omega)]
      rw [d1, if_neg (fun e => by omega), n2, if_neg (by omega), if_neg (by omega), l0, if_neg (by omega)]
      rw [← List.cons_append, hS]
      have hL : lastL cl (b.length + 2) ((s :: t :: b) ++ no k) = 0 := lastL_none (fun p hp => by
        rw [List.take_left' (by simp)] at hp
        rw [hb p hp]; decide)
      rw [hL, if_neg (by omega)]
      unfold blanks
      rw [hS]
      by_cases hk0 : k = 0
      · rw [if_pos hk0, if_neg (fun e => by have := e.1; simp [no, hk0] at this)]
        rfl
      · rw [if_neg hk0, if_pos ⟨by simp [no]; omega, by omega⟩]
        rfl
    by_cases hk0 : k = 0
    · rw [if_pos hk0] at hN ⊢
      refine np_step ?_
      rw [hN, hk0]
      exact List.drop_of_length_le (by simp [no])
    · rw [if_neg hk0] at hN ⊢
      refine np_step ?_
      rw [hN]
      obtain ⟨z, hz, hm⟩ : ∃ z, ((s :: t :: b) ++ no k).drop (b.length + 1) = z :: no k ∧ z ∈ s :: t :: b := by
        rw [List.drop_append]
        have hlt : b.length + 1 < (s :: t :: b).length := by simp
        refine ⟨(s :: t :: b)[b.length + 1]'hlt, ?_, List.getElem_mem _⟩
        rw [List.drop_eq_getElem_cons hlt, List.drop_of_length_le (by simp), show b.length + 1 - (s :: t :: b).length = 0 by simp]
        rfl
      rw [hz]
      have h := np_space (kind := 3) U (s := z) (.inl (hb z hm)) (.inr rfl) k
      rw [if_neg hk0] at h
      exact h
theorem last_behind : ∀ {n : Nat} {l : List Int} {i : Nat} {p : Int}, lastL cl n l ≤ i → i < n → l[i]? = some p → cl p ≠ 4
  | 0, _, _, _, _, h, _ => by omega
  | n + 1, [], i, p, _, _, h => by simp at h
  | n + 1, x :: l, i, p, h, hi, hp => by
    unfold lastL at h
    cases i with
    | zero =>
      have : p = x := by simpa using hp.symm
      subst this
      intro h4
      by_cases h0 : 0 < lastL cl n l
      · rw [if_pos h0] at h; omega
      · rw [if_neg h0, if_pos h4] at h; omega
    | succ i =>
      refine last_behind (n := n) (l := l) (i := i) ?_ (by omega) (by simpa using hp)
      by_cases h0 : 0 < lastL cl n l
      · rw [if_pos h0] at h; omega
      · omega
end
end Sc
end Go.Proofs.YtiheagkgpbkkfaaDoor

/-
  How texts are cut, in plain mathematics: few pieces are open; an open one is another with a sign behind.
-/
namespace Go.Proofs.YtiheagkgpbkkfaaDoor
set_option linter.unusedVariables false
namespace Sc
section
variable {cl : Int → Int} {kind : Nat}
theorem sp_head39 (U : Us cl) {l : List Int} (h : l.head? = some 39) : sp cl l = 0 := by
  cases l with
  | nil => rfl
  | cons p l =>
    have : p = 39 := by simpa using h
    subst this
    exact sp_cons_no (by rw [U.q]; omega)
/-- Spaces up to what needs more. -/
theorem sp_upto (U : Us cl) {a : List Int} {k : Nat} (h : a.length ≤ sp cl (a ++ no k)) : sp cl (a ++ no k) = a.length ∧ ∀ p ∈ a, cl p = 3 ∨ cl p = 4 := by
  have e := sp_app U a k
  have hle : sp cl a ≤ a.length := tw_le _ a
  have e2 : sp cl a = a.length := by omega
  refine ⟨by omega, fun p hp => ?_⟩
  have := tw_full (q := isS cl) e2 p hp
  simpa [isS] using this
/-- Of all pieces the first one that isn't decided, and all behind it. -/
theorem few (U : Us cl) {a : List Int} {k : Nat} (hk : kind = 1 ∨ kind = 2 ∨ kind = 3) (hu : ¬ Dec cl kind a.length (a ++ no k)) : Np cl kind (if k = 0 then 2 else 4) (a ++ no k) := by
  by_cases hN : a.length ≤ (piece cl kind (a ++ no k)).1
  · exact np_mono (by split <;> omega) (np_far U hN)
  have hl : a ++ no k ≠ [] := by
    cases a with
    | nil => simp at hN
    | cons p a => simp
  have hpos := piece_pos (kind := kind) U hl
  have W := way (cl := cl) (a ++ no k) hk
  have bg : (piece cl kind (a ++ no k)).2 ≤ a.length → kind ≠ 1 ∧ begun (kind == 3) a.length (a ++ no k) = true := fun hR => by
    have h1 : ¬ (kind = 1 ∨ begun (kind == 3) a.length (a ++ no k) = false) := fun e => hu ⟨hR, e⟩
    refine ⟨fun e => h1 (.inl e), ?_⟩
    cases hb : begun (kind == 3) a.length (a ++ no k) with
    | true => rfl
    | false => exact absurd (.inr hb) h1
  suffices hs : Np cl kind ((if k = 0 then 1 else 3) + 1) (a ++ no k) from np_mono (by split <;> omega) hs
  refine np_step ?_
  generalize hq : piece cl kind (a ++ no k) = q at hN hpos W bg
  rcases W with ⟨w, n, h, hw, h0, rfl⟩ | ⟨n, rfl⟩ | ⟨h, h2, rfl⟩ | ⟨h, rfl⟩ | ⟨h3, h, rfl⟩
  ·
    simp only at hN bg
    obtain ⟨_, hb⟩ := bg (by omega)
    obtain ⟨_, h1⟩ := begun_le hb
    have h2 := (ending_ge (w := w) (l := a ++ no k) (by omega)).1
    omega
  ·
    simp only at hN bg hpos
    obtain ⟨hk1, hb⟩ := bg (by omega)
    obtain ⟨_, h1⟩ := begun_le hb
    rcases h1 with h1 | ⟨h1, b, r, e, ht⟩
    · omega
    · obtain rfl : n = 1 := by omega
      match a, h1, e with
      | [x, y], _, e =>
        simp only [List.cons_append, List.nil_append, List.cons.injEq] at e
        obtain ⟨rfl, rfl, _⟩ := e
        simp only [List.cons_append, List.nil_append, List.drop_succ_cons, List.drop_zero]
        exact np_mono (by split <;> omega) (np_letter U (U.let' _ _ ht) (by omega) k)
  ·
    simp only at hN bg hpos
    have hn : a.length ≤ sp cl (a ++ no k) := by
      apply Classical.byContradiction
      intro hlt
      obtain ⟨_, hb⟩ := bg (by omega)
      have := sp_head39 U (begun_le hb).1
      omega
    obtain ⟨e, hall⟩ := sp_upto U hn
    rw [e] at h h2 ⊢
    have hk0 : k ≠ 0 := fun e0 => by rw [e0] at h; simp [no] at h
    have hk23 : kind = 2 ∨ kind = 3 := by
      rcases hk with h1 | h1
      · exfalso
        subst h1
        have e3 : (word cl (a ++ no k)).2 = sp cl (a ++ no k) + 1 := by
          have : piece cl 1 (a ++ no k) = word cl (a ++ no k) := by unfold piece; rw [if_pos rfl]
          rw [← this, hq]
        have e4 : (word cl (a ++ no k)).1 = sp cl (a ++ no k) - 1 := by
          have : piece cl 1 (a ++ no k) = word cl (a ++ no k) := by unfold piece; rw [if_pos rfl]
          rw [← this, hq]
        unfold word at e3 e4
        simp only [more] at e3 e4
        omega
      · exact h1
    obtain ⟨z, hz, hm⟩ : ∃ z, (a ++ no k).drop (a.length - 1) = z :: no k ∧ z ∈ a := by
      have hlt : a.length - 1 < a.length := by omega
      refine ⟨a[a.length - 1]'hlt, ?_, List.getElem_mem _⟩
      rw [List.drop_append, List.drop_eq_getElem_cons hlt, List.drop_of_length_le (by omega), show a.length - 1 - a.length = 0 by omega]
      rfl
    rw [hz]
    exact np_mono (by split <;> omega) (np_space U (hall z hm) hk23 k)
  ·
    simp only at hN bg
    rw [rn_app U (by decide)] at h
    have hle : rn cl 2 a ≤ a.length := tw_le _ a
    obtain ⟨_, hb⟩ := bg (by omega)
    obtain ⟨_, h1⟩ := begun_le hb
    omega
  ·
    simp only at hN bg
    have hn : a.length ≤ sp cl (a ++ no k) := by
      apply Classical.byContradiction
      intro hlt
      obtain ⟨_, hb⟩ := bg (by omega)
      have e0 := sp_head39 U (begun_le hb).1
      have := lastL_le (cl := cl) (sp cl (a ++ no k)) (a ++ no k)
      omega
    obtain ⟨e, hall⟩ := sp_upto U hn
    rw [e] at h hN ⊢
    have hk3 : kind = 3 := by omega
    subst hk3
    have hd : (a ++ no k).drop (lastL cl a.length (a ++ no k)) = a.drop (lastL cl a.length (a ++ no k)) ++ no k := by
      rw [List.drop_append, show lastL cl a.length (a ++ no k) - a.length = 0 by omega, List.drop_zero]
    rw [hd]
    refine np_spaces U (fun p hp => ?_) (fun e0 => ?_) k
    · obtain ⟨i, hi, rfl⟩ := List.mem_iff_getElem.1 hp
      rw [List.getElem_drop]
      simp only [List.length_drop] at hi
      have hne := last_behind (cl := cl) (n := a.length) (l := a ++ no k) (i := lastL cl a.length (a ++ no k) + i) (p := a[lastL cl a.length (a ++ no k) + i]'(by omega)) (by omega) (by omega) (by
        rw [List.getElem?_append_left (by omega)]
        exact List.getElem?_eq_getElem _)
      have := hall _ (List.getElem_mem (l := a) (n := lastL cl a.length (a ++ no k) + i) (by omega))
      omega
    · have := congrArg List.length e0
      simp only [List.length_drop, List.length_nil] at this
      omega
end
end Sc
end Go.Proofs.YtiheagkgpbkkfaaDoor

/-
  How texts are cut, in plain mathematics: an open piece is another one with a sign behind.
-/
namespace Go.Proofs.YtiheagkgpbkkfaaDoor
set_option linter.unusedVariables false
namespace Sc
section
variable {cl : Int → Int} {kind : Nat}
theorem rn_snoc_no {c x : Int} (hx : cl x ≠ c) (a : List Int) : rn cl c (a ++ [x]) = rn cl c a := tw_cap (fun p hp => by obtain rfl := List.mem_singleton.1 hp; simpa [isC] using hx)
theorem rn_snoc_yes {c x : Int} (hx : cl x = c) {a : List Int} (h : rn cl c a = a.length) : rn cl c (a ++ [x]) = a.length + 1 := by
  unfold rn
  rw [tw_all (tw_full h)]
  have : isC cl c x = true := by simpa [isC] using hx
  rw [tw_cons_yes this]
  rfl
theorem drop1_snoc {a : List Int} (ha : a ≠ []) (x : Int) : (a ++ [x]).drop 1 = a.drop 1 ++ [x] := by
  cases a with
  | nil => exact absurd rfl ha
  | cons p a => rfl
theorem head_snoc {a : List Int} (ha : a ≠ []) (x : Int) : (a ++ [x]).head? = a.head? := by
  cases a with
  | nil => exact absurd rfl ha
  | cons p a => rfl
theorem headC_snoc {a : List Int} (ha : a ≠ []) (x : Int) : headC cl (a ++ [x]) = headC cl a := by
  cases a with
  | nil => exact absurd rfl ha
  | cons p a => rfl
theorem led_snoc_no {c x : Int} (hx : cl x ≠ c) {a : List Int} (ha : a ≠ []) : led cl c (a ++ [x]) = led cl c a := by
  unfold led
  rw [head_snoc ha, drop1_snoc ha, rn_snoc_no hx, rn_snoc_no hx]
theorem led_le (c : Int) (a : List Int) : led cl c a ≤ a.length := by
  unfold led
  split
  · rename_i h
    cases a with
    | nil => simp [rn, tw] at h
    | cons p a =>
      have : rn cl c a ≤ a.length := tw_le _ a
      simp only [List.drop_succ_cons, List.drop_zero, List.length_cons]; omega
  · exact tw_le _ a
theorem led_snoc_yes {c x : Int} (hx : cl x = c) {a : List Int} (ha : a ≠ []) (h : led cl c a = a.length) : led cl c (a ++ [x]) = a.length + 1 := by
  unfold led at h ⊢
  rw [head_snoc ha, drop1_snoc ha]
  cases a with
  | nil => exact absurd rfl ha
  | cons p a =>
    simp only [List.head?_cons, List.drop_succ_cons, List.drop_zero, List.length_cons] at h ⊢
    by_cases h1 : some p = some 32 ∧ 0 < rn cl c a
    · rw [if_pos h1] at h
      have e : rn cl c (a ++ [x]) = a.length + 1 := rn_snoc_yes hx (by omega)
      rw [e, if_pos ⟨h1.1, by omega⟩]
      omega
    · rw [if_neg h1] at h
      have hfull : rn cl c (p :: a) = (p :: a).length := h
      have hp : cl p = c := by
        have := tw_full (q := isC cl c) hfull p (by simp)
        simpa [isC] using this
      have ea : rn cl c a = a.length := by
        rw [rn_cons_yes hp] at hfull
        simpa using hfull
      have e : rn cl c (a ++ [x]) = a.length + 1 := rn_snoc_yes hx ea
      have e2 : rn cl c (p :: a ++ [x]) = (p :: a).length + 1 := rn_snoc_yes hx hfull
      by_cases hp32 : some p = some 32
      · -- a blank of the class itself
        have ha0 : a.length = 0 := by
          by_cases h0 : 0 < rn cl c a
          · exact absurd ⟨hp32, h0⟩ h1
          · omega
        rw [if_pos ⟨hp32, by omega⟩, e]
        omega
      · rw [if_neg (fun e => hp32 e.1)]
        exact e2
/-- A sign that ends no ending. -/
def Plainly (x : Int) : Prop := ∀ w, eqw w x 115 = false ∧ eqw w x 116 = false ∧ eqw w x 109 = false ∧ eqw w x 100 = false ∧ eqw w x 101 = false ∧ eqw w x 108 = false
theorem plainly (x : Int) (h : x = 97 ∨ x = 49 ∨ x = 33 ∨ x = 32 ∨ x = 10) : Plainly x := by
  intro w
  rcases h with rfl | rfl | rfl | rfl | rfl <;> cases w <;> decide
theorem ending_snoc {w : Bool} {x : Int} (hx : Plainly x) (a : List Int) : ending w (a ++ [x]) = ending w a := by
  obtain ⟨e1, e2, e3, e4, e5, e6⟩ := hx w
  match a with
  | [] => rfl
  | [p] => by_cases hp : p = 39 <;> simp [ending, hp, e1, e2, e3, e4]
  | [p, y] =>
    by_cases hp : p = 39
    · by_cases hs : (eqw w y 115 || eqw w y 116 || eqw w y 109 || eqw w y 100) = true
      · simp only [List.cons_append, List.nil_append, ending, hp, if_true, hs]
      · have hs' : (eqw w y 115 || eqw w y 116 || eqw w y 109 || eqw w y 100) = false := by simpa using hs
        simp [ending, hp, hs', e5, e6]
    · simp [ending, hp]
  | p :: y :: z :: r => rfl
theorem two_not {w : Bool} {y : Int} (h : two w y = true) : (eqw w y 115 || eqw w y 116 || eqw w y 109 || eqw w y 100) = false := by
  unfold two eqw at h
  unfold eqw
  cases w
  · simp only [Bool.false_and, Bool.or_false, Bool.or_eq_true, beq_iff_eq] at h
    simp only [Bool.false_and, Bool.or_false, Bool.or_eq_false_iff, beq_eq_false_iff_ne, ne_eq]
    omega
  · simp only [Bool.true_and, Bool.or_eq_true, beq_iff_eq] at h
    simp only [Bool.true_and, Bool.or_eq_false_iff, beq_eq_false_iff_ne, ne_eq]
    omega
/-- Just a first part of an ending: one sign behind makes it one. -/
theorem ending_full {w : Bool} {y : Int} (h : two w y = true) : ∃ x, (x = 101 ∨ x = 108) ∧ ending w [39, y, x] = 3 := by
  have hs := two_not h
  have h1 : eqw w 101 101 = true := by cases w <;> decide
  have h2 : eqw w 108 108 = true := by cases w <;> decide
  unfold two at h
  simp only [Bool.or_eq_true] at h
  rcases h with (h | h) | h
  · exact ⟨101, .inl rfl, by simp [ending, hs, h, h1]⟩
  · exact ⟨101, .inl rfl, by simp [ending, hs, h, h1]⟩
  · exact ⟨108, .inr rfl, by simp [ending, hs, h, h2]⟩
theorem lastL_snoc {x : Int} (hx : cl x = 4) : ∀ a : List Int, lastL cl (a.length + 1) (a ++ [x]) = a.length + 1
  | [] => by
    show lastL cl (0 + 1) [x] = 1
    unfold lastL
    rw [if_neg (by unfold lastL; omega), if_pos hx]
  | p :: a => by
    have := lastL_snoc hx a
    rw [List.cons_append, List.length_cons]
    unfold lastL
    rw [this, if_pos (by omega)]
theorem zero_sp {c : Int} (hc : c ≠ 3 ∧ c ≠ 4) : ∀ {l : List Int}, (∀ p ∈ l, cl p = 3 ∨ cl p = 4) → rn cl c l = 0
  | [], _ => rfl
  | p :: l, h => rn_cons_no (by have := h p (by simp); omega)
theorem led_sp {c : Int} (hc : c ≠ 3 ∧ c ≠ 4) {l : List Int} (h : ∀ p ∈ l, cl p = 3 ∨ cl p = 4) : led cl c l = 0 := by
  unfold led
  rw [zero_sp hc (fun p hp => h p (List.mem_of_mem_drop hp)), if_neg (fun e => by omega)]
  exact zero_sp hc h
theorem sp_all {l : List Int} (h : ∀ p ∈ l, cl p = 3 ∨ cl p = 4) : sp cl l = l.length := by
  have e := tw_all (q := isS cl) (a := l) (T := []) (fun p hp => by have := h p hp; unfold isS; simpa using this)
  simpa [sp, tw] using e
theorem end_sp (U : Us cl) {w : Bool} {l : List Int} (h : ∀ p ∈ l, cl p = 3 ∨ cl p = 4) : ending w l = 0 := by
  cases l with
  | nil => rfl
  | cons p l => exact ending_head (fun e => by have := h p (by simp); rw [e, U.q] at this; omega)
theorem plain_sp (U : Us cl) {l : List Int} (h : ∀ p ∈ l, cl p = 3 ∨ cl p = 4) : (plain cl l).1 = l.length := by
  unfold plain
  rw [end_sp U h, led_sp (by decide) h, led_sp (by decide) h, led_sp (by decide) h, if_neg (by omega), if_neg (by omega), if_neg (by omega), if_neg (by omega)]
  unfold blanks
  rw [sp_all h, if_neg (fun e => by omega)]
  rfl
theorem wide_sp (U : Us cl) {a : List Int} (ha : ∀ p ∈ a, cl p = 3 ∨ cl p = 4) : (wide cl (a ++ [10])).1 = a.length + 1 := by
  have h : ∀ p ∈ a ++ [10], cl p = 3 ∨ cl p = 4 := fun p hp => by
    rcases List.mem_append.1 hp with hp | hp
    · exact ha p hp
    · obtain rfl := List.mem_singleton.1 hp
      exact .inr U.nl
  have hH : headC cl (a ++ [10]) ≠ 1 := by
    cases a with
    | nil => show cl 10 ≠ 1; rw [U.nl]; decide
    | cons p a => have := ha p (by simp); show cl p ≠ 1; omega
  unfold wide
  rw [end_sp U h, if_neg (by omega), if_neg hH, zero_sp (c := 1) (by decide) (fun p hp => h p (List.mem_of_mem_drop hp)), if_neg (fun e => by omega), zero_sp (c := 2) (by decide) h, if_neg (by omega), if_neg (by omega), led_sp (by decide) h, if_neg (by omega), sp_all h, List.length_append]
  have e := lastL_snoc U.nl a
  simp only [List.length_singleton]
  rw [e, if_pos (by omega)]
theorem piece_1 (l : List Int) : piece cl 1 l = word cl l := by unfold piece; rw [if_pos rfl]
theorem piece_2 (l : List Int) : piece cl 2 l = plain cl l := by unfold piece; rw [if_neg (by decide), if_pos rfl]
theorem piece_3 (l : List Int) : piece cl 3 l = wide cl l := by unfold piece; rw [if_neg (by decide), if_neg (by decide)]
theorem piece_ending {w : Bool} {l : List Int} (hk : kind = 2 ∨ kind = 3) (hw : w = (kind == 3)) (h : 0 < ending w l) : (piece cl kind l).1 = ending w l := by
  subst hw
  rcases hk with rfl | rfl
  · have h' : 0 < ending false l := h
    rw [piece_2]; unfold plain; rw [if_pos h']; rfl
  · have h' : 0 < ending true l := h
    rw [piece_3]; unfold wide; rw [if_pos h']; rfl
/-- What begins an ending, and is none of itself, is open: with one sign behind it is another piece. -/
theorem open_word (U : Us cl) {a : List Int} (hu : ¬ Dec cl 1 a.length a) (hle : (word cl a).1 ≤ a.length) : (word cl (a ++ [97])).1 ≠ (word cl a).1 := by
  have hR : ¬ (word cl a).2 ≤ a.length := fun e => hu ⟨by rw [piece_1]; exact e, .inl rfl⟩
  unfold word at hR hle ⊢
  simp only [more] at hR hle ⊢
  have hs97 : isS cl 97 = false := by unfold isS; rw [U.a]; rfl
  have e1 : sp cl (a ++ [97]) = sp cl a := tw_cap (fun p hp => by obtain rfl := List.mem_singleton.1 hp; exact hs97)
  have hsl : sp cl a ≤ a.length := tw_le _ a
  have e2 : (a ++ [97]).drop (sp cl a) = a.drop (sp cl a) ++ [97] := by rw [List.drop_append, show sp cl a - a.length = 0 by omega]; rfl
  have hfull : tw (isN cl) (a.drop (sp cl a)) = (a.drop (sp cl a)).length := by
    have := tw_le (isN cl) (a.drop (sp cl a))
    rw [List.length_drop] at this ⊢
    omega
  have hn : isN cl 97 = true := by unfold isN; rw [U.a]; rfl
  rw [e1, e2, tw_all (tw_full hfull), tw_cons_yes hn]
  omega
theorem open_plain (U : Us cl) {a : List Int} (ha : a ≠ []) (hN : (plain cl a).1 = a.length) (hE : ¬ 0 < ending false a) : ∃ x, (x = 97 ∨ x = 49 ∨ x = 33 ∨ x = 32) ∧ (plain cl (a ++ [x])).1 = a.length + 1 := by
  have hE0 : ending false a = 0 := by omega
  have hpos : 0 < a.length := by cases a with | nil => exact absurd rfl ha | cons p a => simp
  unfold plain at hN
  rw [if_neg hE] at hN
  by_cases c1 : 0 < led cl 1 a
  · rw [if_pos c1] at hN
    refine ⟨97, .inl rfl, ?_⟩
    unfold plain
    rw [ending_snoc (plainly 97 (by simp)), hE0, if_neg (by omega), led_snoc_yes U.a ha hN, if_pos (by omega)]
    rfl
  · rw [if_neg c1] at hN
    by_cases c2 : 0 < led cl 2 a
    · rw [if_pos c2] at hN
      refine ⟨49, .inr (.inl rfl), ?_⟩
      unfold plain
      rw [ending_snoc (plainly 49 (by simp)), hE0, if_neg (by omega), led_snoc_no (c := 1) (by rw [U.one]; decide) ha, if_neg c1, led_snoc_yes U.one ha hN, if_pos (by omega)]
      rfl
    · rw [if_neg c2] at hN
      by_cases c3 : 0 < led cl 0 a
      · rw [if_pos c3] at hN
        refine ⟨33, .inr (.inr (.inl rfl)), ?_⟩
        unfold plain
        rw [ending_snoc (plainly 33 (by simp)), hE0, if_neg (by omega), led_snoc_no (c := 1) (by rw [U.ex]; decide) ha, if_neg c1, led_snoc_no (c := 2) (by rw [U.ex]; decide) ha, if_neg c2, led_snoc_yes U.ex ha hN, if_pos (by omega)]
        rfl
      · rw [if_neg c3] at hN
        have hs : sp cl a = a.length := by
          have hle : sp cl a ≤ a.length := tw_le _ a
          unfold blanks at hN
          split at hN
          · simp only at hN; omega
          · exact hN
        have hall : ∀ p ∈ a, cl p = 3 ∨ cl p = 4 := fun p hp => by have := tw_full (q := isS cl) hs p hp; simpa [isS] using this
        refine ⟨32, .inr (.inr (.inr rfl)), ?_⟩
        rw [plain_sp U (fun p hp => by
          rcases List.mem_append.1 hp with hp | hp
          · exact hall p hp
          · obtain rfl := List.mem_singleton.1 hp
            exact .inl U.blank)]
        simp
theorem open_wide (U : Us cl) {a : List Int} (ha : a ≠ []) (hN : (wide cl a).1 = a.length) (hR : (wide cl a).2 = a.length + 1) (hE : ¬ 0 < ending true a) : ∃ x, (x = 97 ∨ x = 49 ∨ x = 10) ∧ (wide cl (a ++ [x])).1 = a.length + 1 := by
  have hE0 : ending true a = 0 := by omega
  have hpos : 0 < a.length := by cases a with | nil => exact absurd rfl ha | cons p a => simp
  unfold wide at hN hR
  rw [if_neg hE] at hN hR
  by_cases c1 : headC cl a = 1
  · rw [if_pos c1] at hN
    refine ⟨97, .inl rfl, ?_⟩
    unfold wide
    rw [ending_snoc (plainly 97 (by simp)), hE0, if_neg (by omega), headC_snoc ha, if_pos c1, rn_snoc_yes U.a hN]
    rfl
  · rw [if_neg c1] at hN hR
    by_cases c2 : (headC cl a ≠ 2 ∧ headC cl a ≠ 4) ∧ 0 < rn cl 1 (a.drop 1)
    · rw [if_pos c2] at hN
      simp only [more] at hN
      refine ⟨97, .inl rfl, ?_⟩
      have e : rn cl 1 (a.drop 1 ++ [97]) = (a.drop 1).length + 1 := rn_snoc_yes U.a (by rw [List.length_drop]; omega)
      rw [List.length_drop] at e
      unfold wide
      rw [ending_snoc (plainly 97 (by simp)), hE0, if_neg (by omega), headC_snoc ha, if_neg c1, drop1_snoc ha, e, if_pos ⟨c2.1, by omega⟩]
      simp only [more]
      omega
    · rw [if_neg c2] at hN hR
      have c2' : ∀ x, cl x ≠ 1 → ¬ ((headC cl (a ++ [x]) ≠ 2 ∧ headC cl (a ++ [x]) ≠ 4) ∧ 0 < rn cl 1 ((a ++ [x]).drop 1)) := fun x hx e => by
        rw [headC_snoc ha, drop1_snoc ha, rn_snoc_no hx] at e
        exact c2 e
      by_cases c3 : 3 ≤ rn cl 2 a
      · rw [if_pos c3] at hN hR
        simp only at hN hR
        omega
      · rw [if_neg c3] at hN hR
        by_cases c4 : 0 < rn cl 2 a
        · rw [if_pos c4] at hN
          simp only [more] at hN
          refine ⟨49, .inr (.inl rfl), ?_⟩
          have e : rn cl 2 (a ++ [49]) = a.length + 1 := rn_snoc_yes U.one hN
          unfold wide
          rw [ending_snoc (plainly 49 (by simp)), hE0, if_neg (by omega), if_neg (by rw [headC_snoc ha]; exact c1), if_neg (c2' 49 (by rw [U.one]; decide)), e]
          by_cases h3 : 3 ≤ a.length + 1
          · rw [if_pos h3]; simp only; omega
          · rw [if_neg h3, if_pos (by omega)]; rfl
        · rw [if_neg c4] at hN hR
          have n3 : ¬ 3 ≤ rn cl 2 (a ++ [10]) := by rw [rn_snoc_no (by rw [U.nl]; decide)]; exact c3
          have n4 : ¬ 0 < rn cl 2 (a ++ [10]) := by rw [rn_snoc_no (by rw [U.nl]; decide)]; exact c4
          by_cases c5 : 0 < led cl 0 a
          · rw [if_pos c5] at hN
            simp only [more] at hN
            refine ⟨10, .inr (.inr rfl), ?_⟩
            have hll := led_le (cl := cl) 0 a
            have e5 : led cl 0 (a ++ [10]) = led cl 0 a := led_snoc_no (by rw [U.nl]; decide) ha
            have e6 : (a ++ [10]).drop (led cl 0 a) = a.drop (led cl 0 a) ++ [10] := by rw [List.drop_append, show led cl 0 a - a.length = 0 by omega]; rfl
            have e7 : rn cl 4 (a.drop (led cl 0 a) ++ [10]) = (a.drop (led cl 0 a)).length + 1 := rn_snoc_yes U.nl (by rw [List.length_drop]; omega)
            rw [List.length_drop] at e7
            unfold wide
            rw [ending_snoc (plainly 10 (by simp)), hE0, if_neg (by omega), if_neg (by rw [headC_snoc ha]; exact c1), if_neg (c2' 10 (by rw [U.nl]; decide)), if_neg n3, if_neg n4, e5, if_pos c5, e6, e7]
            simp only [more]
            omega
          · rw [if_neg c5] at hN
            have hs : sp cl a = a.length := by
              have hle : sp cl a ≤ a.length := tw_le _ a
              by_cases c6 : 0 < lastL cl (sp cl a) a
              · rw [if_pos c6] at hN
                have := lastL_le (cl := cl) (sp cl a) a
                simp only at hN
                omega
              · rw [if_neg c6] at hN
                unfold blanks at hN
                split at hN
                · simp only at hN; omega
                · exact hN
            have hall : ∀ p ∈ a, cl p = 3 ∨ cl p = 4 := fun p hp => by have := tw_full (q := isS cl) hs p hp; simpa [isS] using this
            exact ⟨10, .inr (.inr rfl), wide_sp U hall⟩
theorem blanks_le (l : List Int) : (blanks cl l).1 ≤ l.length := by
  have : sp cl l ≤ l.length := tw_le _ l
  unfold blanks
  split
  · simp only; omega
  · exact this
theorem ending_len (w : Bool) (l : List Int) : ending w l ≤ l.length := by
  by_cases h : 0 < ending w l
  · have := ending_in (w := w) l 0 (by simpa [no] using h)
    simpa [no] using this
  · omega
theorem piece_le (l : List Int) : (piece cl kind l).1 ≤ l.length := by
  have hsp : sp cl l ≤ l.length := tw_le _ l
  unfold piece
  split
  · have h2 : tw (isN cl) (l.drop (sp cl l)) ≤ (l.drop (sp cl l)).length := tw_le _ _
    rw [List.length_drop] at h2
    unfold word
    simp only [more]
    omega
  · split
    · unfold plain
      split
      · exact ending_len _ _
      · split
        · exact led_le _ _
        · split
          · exact led_le _ _
          · split
            · exact led_le _ _
            · exact blanks_le l
    · unfold wide
      split
      · exact ending_len _ _
      · split
        · exact tw_le _ _
        · split
          · rename_i h
            have h2 : rn cl 1 (l.drop 1) ≤ (l.drop 1).length := tw_le _ _
            rw [List.length_drop] at h2
            have := h.2
            simp only [more]
            omega
          · split
            · rename_i h
              have h2 : rn cl 2 l ≤ l.length := tw_le _ _
              simp only
              omega
            · split
              · exact tw_le _ _
              · split
                · have h1 := led_le (cl := cl) 0 l
                  have h2 : rn cl 4 (l.drop (led cl 0 l)) ≤ (l.drop (led cl 0 l)).length := tw_le _ _
                  rw [List.length_drop] at h2
                  simp only [more]
                  omega
                · split
                  · exact Nat.le_trans (lastL_le _ _) hsp
                  · exact blanks_le l
/-- A piece that isn't decided, where nothing needs more, is another one with one sign behind. -/
theorem open_any (U : Us cl) {a : List Int} (ha : a ≠ []) (hk : kind = 1 ∨ kind = 2 ∨ kind = 3) (hu : ¬ Dec cl kind a.length a) : ∃ x, (x = 97 ∨ x = 101 ∨ x = 108 ∨ x = 49 ∨ x = 33 ∨ x = 32 ∨ x = 10) ∧ (piece cl kind (a ++ [x])).1 ≠ (piece cl kind a).1 := by
  have hle := piece_le (cl := cl) (kind := kind) a
  have hpos := piece_pos (kind := kind) U ha
  rcases hk with rfl | hk
  · refine ⟨97, .inl rfl, ?_⟩
    rw [piece_1] at hle ⊢
    rw [piece_1]
    exact open_word U hu hle
  have hk1 : kind ≠ 1 := by omega
  -- with a sign behind it is one point more
  have fin : (piece cl kind a).1 = a.length → (piece cl kind a).2 = a.length + 1 → ¬ 0 < ending (kind == 3) a → ∃ x, (x = 97 ∨ x = 101 ∨ x = 108 ∨ x = 49 ∨ x = 33 ∨ x = 32 ∨ x = 10) ∧ (piece cl kind (a ++ [x])).1 ≠ (piece cl kind a).1   := fun hN hR hE => by
    rcases hk with rfl | rfl
    · rw [piece_2] at hN
      obtain ⟨x, hx, h⟩ := open_plain U ha hN hE
      exact ⟨x, by omega, by rw [piece_2, piece_2, h, hN]; omega⟩
    · rw [piece_3] at hN hR
      obtain ⟨x, hx, h⟩ := open_wide U ha hN hR hE
      exact ⟨x, by omega, by rw [piece_3, piece_3, h, hN]; omega⟩
  have bg : (piece cl kind a).2 ≤ a.length → begun (kind == 3) a.length a = true := fun hR => by
    cases hb : begun (kind == 3) a.length a with
    | true => rfl
    | false => exact absurd ⟨hR, .inr hb⟩ hu
  by_cases hb : begun (kind == 3) a.length a = true
  · obtain ⟨h39, h1 | ⟨h2, y, r, e, ht⟩⟩ := begun_le hb
    · match a, h1, h39 with
      | [p], _, h39 =>
        obtain rfl : p = 39 := by simpa using h39
        have hs0 : sp cl [39] = 0 := sp_head39 U rfl
        have W := way (cl := cl) (kind := kind) [39] (.inr hk)
        have hN : (piece cl kind [39]).1 = 1 := by simp only [List.length_singleton] at hle; omega
        refine fin hN ?_ (by simp [ending])
        generalize hq : piece cl kind [39] = q at hN W
        rcases W with ⟨w, n, h, hw, h0, rfl⟩ | ⟨n, rfl⟩ | ⟨h, h2, rfl⟩ | ⟨h, rfl⟩ | ⟨h3, h, rfl⟩
        · simp [ending] at h; omega
        · simp only at hN; simp only [List.length_singleton]; omega
        · omega
        · have : rn cl 2 [39] = 0 := rn_cons_no (by rw [U.q]; decide); omega
        · have := lastL_le (cl := cl) (sp cl [39]) [39]; omega
    · match a, h2, e with
      | [p, z], _, e =>
        simp only [List.cons.injEq] at e
        obtain ⟨rfl, rfl, _⟩ := e
        obtain ⟨x, hx, h3⟩ := ending_full ht
        refine ⟨x, by omega, ?_⟩
        have e3 : (piece cl kind ([39, z] ++ [x])).1 = 3 := (piece_ending hk rfl (by show 0 < ending _ [39, z, x]; omega)).trans h3
        rw [e3]
        simp only [List.length_cons, List.length_nil] at hle
        omega
  · have hR : ¬ (piece cl kind a).2 ≤ a.length := fun e => hb (bg e)
    have hsp : sp cl a ≤ a.length := tw_le _ a
    have W := way (cl := cl) (kind := kind) a (.inr hk)
    by_cases hl : kind = 3 ∧ 0 < lastL cl (sp cl a) a ∧ piece cl kind a = (lastL cl (sp cl a) a, sp cl a + 1)
    · obtain ⟨rfl, hl1, hl2⟩ := hl
      rw [hl2] at hR
      simp only at hR
      have hs : sp cl a = a.length := by omega
      have hall : ∀ p ∈ a, cl p = 3 ∨ cl p = 4 := fun p hp => by have := tw_full (q := isS cl) hs p hp; simpa [isS] using this
      refine ⟨10, by omega, ?_⟩
      rw [piece_3, wide_sp U hall, hl2]
      have := lastL_le (cl := cl) (sp cl a) a
      simp only
      omega
    · generalize hq : piece cl kind a = q at hR W hl hle hpos fin
      rcases W with ⟨w, n, h, hw, h0, rfl⟩ | ⟨n, rfl⟩ | ⟨h, h2, rfl⟩ | ⟨h, rfl⟩ | ⟨h3, h, rfl⟩
      ·
        simp only at hR hle
        omega
      ·
        simp only at hR hle fin
        have hnE : ¬ 0 < ending (kind == 3) a := fun h0 => by
          have hp := piece_ending (cl := cl) hk rfl h0
          have hr : (piece cl kind a).2 = ending (kind == 3) a := by
            rcases hk with rfl | rfl
            · have h' : 0 < ending false a := h0
              rw [piece_2]; unfold plain; rw [if_pos h']; rfl
            · have h' : 0 < ending true a := h0
              rw [piece_3]; unfold wide; rw [if_pos h']; rfl
          rw [hq] at hp hr
          simp only at hp hr
          omega
        exact fin (by omega) (by omega) hnE
      · simp only at hR; omega
      ·
        simp only at hR
        have : rn cl 2 a ≤ a.length := tw_le _ a
        omega
      · exact absurd ⟨hk.resolve_left h3.2, h, rfl⟩ hl
end
end Sc
end Go.Proofs.YtiheagkgpbkkfaaDoor

/-
  Bytes as points, with how many bytes each has and how many points are sure; pieces of bytes.
-/
namespace Go.Proofs.YtiheagkgpbkkfaaDoor
set_option linter.unusedVariables false
namespace Sc
open Utf
/-- How many bytes each point has. -/
def lensK : Nat → (Nat → Int) → Nat → List Nat
  | 0, _, _ => []
  | k + 1, f, n => if n = 0 then [] else stepN f n true :: lensK k (sh f (stepN f n true)) (n - stepN f n true)
def lens (f : Nat → Int) (n : Nat) : List Nat := lensK n f n
theorem lensK_fuel : ∀ (k l : Nat) (f : Nat → Int) (n : Nat), n ≤ k → n ≤ l → lensK k f n = lensK l f n
  | 0, 0, _, _, _, _ => rfl
  | 0, l + 1, f, n, h, _ => by obtain rfl : n = 0 := by omega
                               simp [lensK]
  | k + 1, 0, f, n, _, h => by obtain rfl : n = 0 := by omega
                               simp [lensK]
  | k + 1, l + 1, f, n, h, h' => by
    unfold lensK
    by_cases hn : n = 0
    · rw [if_pos hn, if_pos hn]
    · rw [if_neg hn, if_neg hn]
      have := step_true (f := f) (n := n) (by omega)
      rw [lensK_fuel k l _ _ (by omega) (by omega)]
theorem lens_zero (f : Nat → Int) : lens f 0 = [] := rfl
theorem lens_step (f : Nat → Int) {n : Nat} (hn : 0 < n) : lens f n = stepN f n true :: lens (sh f (stepN f n true)) (n - stepN f n true) := by
  obtain ⟨k, rfl⟩ : ∃ k, n = k + 1 := ⟨n - 1, by omega⟩
  have := step_true (f := f) (n := k + 1) (by omega)
  show lensK (k + 1) f (k + 1) = _
  unfold lensK
  rw [if_neg (by omega)]
  unfold lens
  rw [lensK_fuel k _ _ _ (by omega) (Nat.le_refl _)]
theorem lens_is : ∀ (k n : Nat) (f : Nat → Int), n ≤ k → (lens f n).length = (pts f n).length ∧ (∀ x ∈ lens f n, 1 ≤ x) ∧ (lens f n).sum = n
  | 0, n, f, h => by
    obtain rfl : n = 0 := by omega
    exact ⟨rfl, fun x hx => by simp [lens_zero] at hx, rfl⟩
  | k + 1, n, f, h => by
    by_cases hn : n = 0
    · subst hn; exact ⟨rfl, fun x hx => by simp [lens_zero] at hx, rfl⟩
    · have hs := step_true (f := f) (n := n) (by omega)
      obtain ⟨h1, h2, h3⟩ := lens_is k (n - stepN f n true) (sh f (stepN f n true)) (by omega)
      rw [lens_step f (by omega), pts_step f (by omega)]
      refine ⟨by simp [h1], fun x hx => ?_, ?_⟩
      · rcases List.mem_cons.1 hx with rfl | hx
        · exact hs.2.1
        · exact h2 x hx
      · rw [List.sum_cons, h3]; omega
/-- How many points are ahead of what needs more. -/
def sure (f : Nat → Int) (n : Nat) : Nat := (pts f (n - rest f n)).length
theorem sure_zero (f : Nat → Int) : sure f 0 = 0 := rfl
theorem sure_more (f : Nat → Int) {n : Nat} (hn : 0 < n) (hm : (dec f n false).2.2 = true) : sure f n = 0 := by
  unfold sure
  rw [rest_more f hn hm, Nat.sub_self]
  rfl
theorem step_same {f : Nat → Int} {n : Nat} (hn : 0 < n) (hm : (dec f n false).2.2 = false) : dec f n true = dec f n false ∧ stepN f n true = stepN f n false := by
  have hs := step_false (f := f) hn hm
  have e := dec_prefix (f := f) (m := n) (n := n) (by omega) (Nat.le_refl _) hm hs.2.1
  exact ⟨e, by unfold stepN; rw [e]⟩
theorem sure_step (f : Nat → Int) {n : Nat} (hn : 0 < n) (hm : (dec f n false).2.2 = false) : sure f n = sure (sh f (stepN f n false)) (n - stepN f n false) + 1 := by
  have hs := step_false (f := f) hn hm
  have er := rest_step f hn hm
  have hr := rest_le _ (n - stepN f n false) (sh f (stepN f n false)) (Nat.le_refl _)
  rw [← er] at hr
  have e2 : dec f (n - rest f n) true = dec f n false := dec_prefix (by omega) (by omega) hm (by omega)
  have e3 : stepN f (n - rest f n) true = stepN f n false := by unfold stepN; rw [e2]
  unfold sure
  rw [pts_step f (n := n - rest f n) (by omega), e3, List.length_cons, ← er, show n - rest f n - stepN f n false = n - stepN f n false - rest f n by omega]
/-- The points, parted where some need more. -/
theorem pts_parts (f : Nat → Int) (n : Nat) : pts f n = pts f (n - rest f n) ++ no (rest f n) := pts_rest n n f (Nat.le_refl _)
theorem sure_le (f : Nat → Int) (n : Nat) : sure f n ≤ (pts f n).length := by
  unfold sure
  rw [pts_parts f n, List.length_append]
  omega
/-! ### a piece taken off -/
theorem drop_is : ∀ (N n : Nat) (f : Nat → Int), N ≤ (pts f n).length → ((lens f n).take N).sum ≤ n ∧ pts (sh f ((lens f n).take N).sum) (n - ((lens f n).take N).sum) = (pts f n).drop N ∧ lens (sh f ((lens f n).take N).sum) (n - ((lens f n).take N).sum) = (lens f n).drop N
  | 0, n, f, _ => by
    simp [sh_zero]
  | N + 1, n, f, h => by
    have hn : 0 < n := by
      by_cases h0 : n = 0
      · subst h0; simp [pts_zero] at h
      · omega
    have hs := step_true (f := f) (n := n) hn
    rw [pts_step f hn, List.length_cons] at h
    obtain ⟨h1, h2, h3⟩ := drop_is N (n - stepN f n true) (sh f (stepN f n true)) (by omega)
    rw [sh_sh] at h2 h3
    rw [lens_step f hn, pts_step f hn, List.take_succ_cons, List.sum_cons, List.drop_succ_cons, List.drop_succ_cons]
    refine ⟨by omega, ?_, ?_⟩
    · rw [← h2]; congr 1; omega
    · rw [← h3]; congr 1; omega
theorem drop_sure : ∀ (N n : Nat) (f : Nat → Int), N ≤ sure f n → rest (sh f ((lens f n).take N).sum) (n - ((lens f n).take N).sum) = rest f n ∧ sure (sh f ((lens f n).take N).sum) (n - ((lens f n).take N).sum) = sure f n - N
  | 0, n, f, _ => by simp [sh_zero]
  | N + 1, n, f, h => by
    have hn : 0 < n := by
      by_cases h0 : n = 0
      · subst h0; rw [sure_zero] at h; omega
      · omega
    have hm : (dec f n false).2.2 = false := by
      cases hm : (dec f n false).2.2 with
      | false => rfl
      | true => rw [sure_more f hn hm] at h; omega
    have hs := step_false (f := f) hn hm
    obtain ⟨e1, e2⟩ := step_same hn hm
    have es := sure_step f hn hm
    obtain ⟨h1, h2⟩ := drop_sure N (n - stepN f n false) (sh f (stepN f n false)) (by omega)
    rw [sh_sh] at h1 h2
    rw [lens_step f hn, e2, List.take_succ_cons, List.sum_cons]
    have e3 : n - (stepN f n false + ((lens (sh f (stepN f n false)) (n - stepN f n false)).take N).sum) = n - stepN f n false - ((lens (sh f (stepN f n false)) (n - stepN f n false)).take N).sum := by omega
    rw [e3, h1, h2]
    exact ⟨(rest_step f hn hm).symm, by omega⟩
/-! ### bytes behind -/
theorem like_cons {k : Nat} {l m : List Int} (h : Like k l m) (p : Int) : Like (k + 1) (p :: l) (p :: m) :=
  ⟨by have := h.1; simp; omega, by have := h.2.1; simp; omega, fun i hi => by
    cases i with
    | zero => rfl
    | succ i => simpa using h.2.2 i (by omega)⟩
theorem behind : ∀ (k n m : Nat) (f g : Nat → Int), n ≤ k → n ≤ m → (∀ i, i < n → f i = g i) → Like (sure f n) (pts f n) (pts g m) ∧ sure f n ≤ sure g m ∧ ∀ N, N ≤ sure f n → (lens f n).take N = (lens g m).take N
  | 0, n, m, f, g, h, _, _ => by
    obtain rfl : n = 0 := by omega
    rw [sure_zero]
    exact ⟨⟨Nat.zero_le _, Nat.zero_le _, fun i hi => by omega⟩, Nat.zero_le _, fun N hN => by obtain rfl : N = 0 := (by omega); simp⟩
  | k + 1, n, m, f, g, h, hnm, hfg => by
    by_cases hn : n = 0
    · subst hn
      rw [sure_zero]
      exact ⟨⟨Nat.zero_le _, Nat.zero_le _, fun i hi => by omega⟩, Nat.zero_le _, fun N hN => by obtain rfl : N = 0 := (by omega); simp⟩
    · cases hm : (dec f n false).2.2 with
      | true =>
        rw [sure_more f (by omega) hm]
        exact ⟨⟨Nat.zero_le _, Nat.zero_le _, fun i hi => by omega⟩, Nat.zero_le _, fun N hN => by obtain rfl : N = 0 := (by omega); simp⟩
      | false =>
        have hs := step_false (f := f) (n := n) (by omega) hm
        have ed := dec_stays (f := f) (g := g) hnm hfg hm
        have hm2 : (dec g m false).2.2 = false := by rw [ed]; exact hm
        obtain ⟨a1, a2⟩ := step_same (f := f) (n := n) (by omega) hm
        obtain ⟨b1, b2⟩ := step_same (f := g) (n := m) (by omega) hm2
        have es : stepN g m false = stepN f n false := by unfold stepN; rw [ed]
        obtain ⟨h1, h2, h3⟩ := behind k (n - stepN f n false) (m - stepN f n false) (sh f (stepN f n false)) (sh g (stepN f n false)) (by omega) (by omega) (fun i hi => hfg _ (by omega))
        have sf := sure_step f (n := n) (by omega) hm
        have sg := sure_step g (n := m) (by omega) hm2
        rw [es] at sg b2
        rw [pts_step f (n := n) (by omega), pts_step g (n := m) (by omega), lens_step f (n := n) (by omega), lens_step g (n := m) (by omega), a1, a2, b1, b2, ed, sf, sg]
        refine ⟨like_cons h1 _, by omega, fun N hN => ?_⟩
        cases N with
        | zero => simp
        | succ N => rw [List.take_succ_cons, List.take_succ_cons, h3 N (by omega)]
/-- One more sign behind bytes none of which need more. -/
theorem dec_ascii {g : Nat → Int} {n : Nat} (hn : 1 ≤ n) (h0 : 0 ≤ g 0) (h1 : g 0 < 128) (fin : Bool) : dec g n fin = (g 0, 1, false) := by
  have hs : Utf.sizeOf (g 0) = (1 : Nat) := Utf.sizeOf_1 h1
  have := dec_yes (f := g) (n := n) (s := 1) (fin := fin) (by omega) hs (by omega) (by
    rw [Nat.min_eq_left hn]
    exact (fpN_full (by omega)).2 (fun j a b => by omega))
  rw [this]
  simp [p0, jn]
theorem one_more : ∀ (k n : Nat) (f g : Nat → Int), n ≤ k → rest f n = 0 → (∀ i, i < n → f i = g i) → 0 ≤ g n → g n < 128 → pts g (n + 1) = pts f n ++ [g n] ∧ lens g (n + 1) = lens f n ++ [1]
  | 0, n, f, g, h, _, _, h0, h1 => by
    obtain rfl : n = 0 := by omega
    have e := dec_ascii (g := g) (n := 1) (Nat.le_refl _) h0 h1 true
    have es : stepN g 1 true = 1 := by unfold stepN; rw [e]; rfl
    rw [pts_step g (by omega), lens_step g (by omega), es, e]
    exact ⟨rfl, rfl⟩
  | k + 1, n, f, g, h, hr, hfg, h0, h1 => by
    by_cases hn : n = 0
    · subst hn
      have e := dec_ascii (g := g) (n := 1) (Nat.le_refl _) h0 h1 true
      have es : stepN g 1 true = 1 := by unfold stepN; rw [e]; rfl
      rw [pts_step g (by omega), lens_step g (by omega), es, e]
      exact ⟨rfl, rfl⟩
    · have hm : (dec f n false).2.2 = false := by
        cases hm : (dec f n false).2.2 with
        | false => rfl
        | true => rw [rest_more f (by omega) hm] at hr; omega
      have hs := step_false (f := f) (n := n) (by omega) hm
      have ed := dec_stays (f := f) (g := g) (n := n) (m := n + 1) (by omega) hfg hm
      have hm2 : (dec g (n + 1) false).2.2 = false := by rw [ed]; exact hm
      obtain ⟨a1, a2⟩ := step_same (f := f) (n := n) (by omega) hm
      obtain ⟨b1, b2⟩ := step_same (f := g) (n := n + 1) (by omega) hm2
      have es : stepN g (n + 1) false = stepN f n false := by unfold stepN; rw [ed]
      have er := rest_step f (n := n) (by omega) hm
      obtain ⟨h2, h3⟩ := one_more k (n - stepN f n false) (sh f (stepN f n false)) (sh g (stepN f n false)) (by omega) (by rw [← er]; exact hr) (fun i hi => hfg _ (by omega)) (by show 0 ≤ g (stepN f n false + (n - stepN f n false)); rw [show stepN f n false + (n - stepN f n false) = n by omega]; exact h0) (by show g (stepN f n false + (n - stepN f n false)) < 128; rw [show stepN f n false + (n - stepN f n false) = n by omega]; exact h1)
      have e4 : sh g (stepN f n false) (n - stepN f n false) = g n := by show g _ = g n; congr 1; omega
      rw [e4] at h2
      rw [pts_step f (n := n) (by omega), pts_step g (n := n + 1) (by omega), lens_step f (n := n) (by omega), lens_step g (n := n + 1) (by omega), a1, a2, b1, b2, es, ed, show n + 1 - stepN f n false = n - stepN f n false + 1 by omega, h2, h3]
      exact ⟨rfl, rfl⟩
theorem sum_lt : ∀ {l : List Nat} {N M : Nat}, (∀ x ∈ l, 1 ≤ x) → N < M → M ≤ l.length → (l.take N).sum < (l.take M).sum
  | l, _, 0, _, h, _ => by omega
  | [], _, M + 1, _, _, h => by simp at h
  | x :: l, 0, M + 1, hx, _, _ => by
    have := hx x (by simp)
    rw [List.take_zero, List.take_succ_cons, List.sum_cons]
    simp only [List.sum_nil]
    omega
  | x :: l, N + 1, M + 1, hx, h, hM => by
    have := sum_lt (l := l) (N := N) (M := M) (fun y hy => hx y (by simp [hy])) (by omega) (by simpa using hM)
    rw [List.take_succ_cons, List.take_succ_cons, List.sum_cons, List.sum_cons]
    omega
/-! ### what is decided stays -/
section
variable {cl : Int → Int} {kind : Nat}
theorem reach_ge (hr : ∀ p, 0 ≤ cl p ∧ cl p ≤ 4) (hk : kind = 1 ∨ kind = 2 ∨ kind = 3) {l : List Int} (hl : l ≠ []) : 2 ≤ (piece cl kind l).2 := by
  have hp := piece_pos0 (kind := kind) hr hl
  have W := way (cl := cl) l hk
  generalize piece cl kind l = q at hp W
  rcases W with ⟨w, n, h, hw, h0, rfl⟩ | ⟨n, rfl⟩ | ⟨h, h2, rfl⟩ | ⟨h, rfl⟩ | ⟨h3, h, rfl⟩
  · have := (ending_ge (w := w) (l := l) (by omega)).1; simp only; omega
  · simp only at hp ⊢; omega
  · simp only; omega
  · simp only; omega
  · have := lastL_le (cl := cl) (sp cl l) l; simp only; omega
theorem dec_like (hr : ∀ p, 0 ≤ cl p ∧ cl p ≤ 4) (hk : kind = 1 ∨ kind = 2 ∨ kind = 3) {l m : List Int} {k k2 : Nat} (hl : l ≠ []) (h : Like k l m) (hk2 : k ≤ k2) (hd : Dec cl kind k l) : piece cl kind m = piece cl kind l ∧ Dec cl kind k2 m := by
  have h2 := reach_ge hr hk hl
  obtain ⟨hR, hb⟩ := hd
  have hp : piece cl kind m = piece cl kind l := by
    rcases hk with rfl | rfl | rfl
    · rw [piece_1] at hR ⊢
      rw [piece_1]
      exact word_stays h hR
    · rw [piece_2] at hR h2 ⊢
      rw [piece_2]
      exact plain_stays h (by omega) (hb.resolve_left (by decide)) hR
    · rw [piece_3] at hR h2 ⊢
      rw [piece_3]
      exact wide_stays h (by omega) (hb.resolve_left (by decide)) hR
  refine ⟨hp, by rw [hp]; omega, ?_⟩
  by_cases h1 : kind = 1
  · exact .inl h1
  · right
    have hb' := hb.resolve_left h1
    cases hb2 : begun (kind == 3) k2 m with
    | false => rfl
    | true =>
      obtain ⟨_, h3 | ⟨h3, b, r, e, ht⟩⟩ := begun_le hb2
      · omega
      · obtain rfl : k2 = k := by omega
        obtain ⟨j, rfl⟩ : ∃ j, k2 = (j + 1) + 1 := ⟨k2 - 2, by omega⟩
        obtain ⟨p, l1, m1, rfl, rfl, h4⟩ := h.ne
        obtain ⟨q, l2, m2, rfl, rfl, _⟩ := h4.ne
        simp only [List.cons.injEq] at e
        obtain ⟨rfl, rfl, _⟩ := e
        have : begun (kind == 3) (j + 1 + 1) (39 :: q :: l2) = true := by
          unfold begun
          simp [h3, ht]
        rw [this] at hb'
        cases hb'
/-- How many bytes the first piece has. -/
def next (cl : Int → Int) (kind : Nat) (f : Nat → Int) (n : Nat) : Nat := ((lens f n).take (piece cl kind (pts f n)).1).sum
theorem stays (hr : ∀ p, 0 ≤ cl p ∧ cl p ≤ 4) (hk : kind = 1 ∨ kind = 2 ∨ kind = 3) {f g : Nat → Int} {n m : Nat} (hn : 0 < n) (hnm : n ≤ m) (h : ∀ i, i < n → f i = g i) (hd : Dec cl kind (sure f n) (pts f n)) : next cl kind g m = next cl kind f n ∧ Dec cl kind (sure g m) (pts g m) := by
  obtain ⟨h1, h2, h3⟩ := behind n n m f g (Nat.le_refl _) hnm h
  have hl : pts f n ≠ [] := by rw [pts_step f hn]; simp
  obtain ⟨hp, hd2⟩ := dec_like hr hk hl h1 h2 hd
  refine ⟨?_, hd2⟩
  have W := way (cl := cl) (pts f n) hk
  have hN : (piece cl kind (pts f n)).1 ≤ sure f n := by
    have hR := hd.1
    generalize piece cl kind (pts f n) = q at hR W
    rcases W with ⟨w, n, h, hw, h0, rfl⟩ | ⟨n, rfl⟩ | ⟨h, h2, rfl⟩ | ⟨h, rfl⟩ | ⟨h3, h, rfl⟩
    · exact hR
    · simp only at hR ⊢; omega
    · simp only at hR ⊢; omega
    · exact hR
    ·
      have := lastL_le (cl := cl) (sp cl (pts f n)) (pts f n)
      simp only at hR ⊢
      omega
  unfold next
  rw [hp, h3 _ hN]
end
end Sc
end Go.Proofs.YtiheagkgpbkkfaaDoor

/-
  What stage 12's laws ask of bytes, in plain mathematics.
-/
namespace Go.Proofs.YtiheagkgpbkkfaaDoor
set_option linter.unusedVariables false
namespace Sc
open Utf
section
variable {cl : Int → Int} {kind : Nat}
/-! ### open pieces -/
theorem pts_ne {f : Nat → Int} {n : Nat} (hn : 0 < n) : pts f n ≠ [] := by rw [pts_step f hn]; simp
theorem open_bytes (U : Us cl) (hk : kind = 1 ∨ kind = 2 ∨ kind = 3) {f : Nat → Int} {n : Nat} (hn : 0 < n) (hr : rest f n = 0) (hu : ¬ Dec cl kind (sure f n) (pts f n)) :
    ∃ x : Int, (x = 97 ∨ x = 101 ∨ x = 108 ∨ x = 49 ∨ x = 33 ∨ x = 32 ∨ x = 10) ∧ ∀ g : Nat → Int, (∀ i, i < n → f i = g i) → g n = x → next cl kind g (n + 1) ≠ next cl kind f n := by
  have hs : sure f n = (pts f n).length := by unfold sure; rw [hr, Nat.sub_zero]
  rw [hs] at hu
  obtain ⟨x, hx, hne⟩ := open_any U (pts_ne hn) hk hu
  refine ⟨x, hx, fun g hg hgx => ?_⟩
  obtain ⟨h1, h2⟩ := one_more n n f g (Nat.le_refl _) hr hg (by rw [hgx]; omega) (by rw [hgx]; omega)
  rw [hgx] at h1
  obtain ⟨l1, l2, _⟩ := lens_is n n f (Nat.le_refl _)
  have hle := piece_le (cl := cl) (kind := kind) (pts f n)
  have hle2 := piece_le (cl := cl) (kind := kind) (pts f n ++ [x])
  rw [List.length_append, List.length_singleton] at hle2
  have hp : ∀ y ∈ lens f n ++ [1], 1 ≤ y := fun y hy => by
    rcases List.mem_append.1 hy with hy | hy
    · exact l2 y hy
    · have := List.mem_singleton.1 hy; omega
  unfold next
  rw [h1, h2]
  have e : (lens f n).take (piece cl kind (pts f n)).1 = (lens f n ++ [1]).take (piece cl kind (pts f n)).1 := by rw [List.take_append_of_le_length (by omega)]
  rw [e]
  intro he
  rcases Nat.lt_trichotomy (piece cl kind (pts f n ++ [x])).1 (piece cl kind (pts f n)).1 with h | h | h
  · have := sum_lt hp h (by simp; omega)
    omega
  · exact hne h
  · have := sum_lt hp h (by simp; omega)
    omega
/-! ### few are open -/
theorem np_next {n : Nat} {l : List Int} (h : Np cl kind n l) (hl : l ≠ []) : ∃ m, n = m + 1 ∧ Np cl kind m (l.drop (piece cl kind l).1) := by
  cases n with
  | zero => exact absurd h hl
  | succ m => exact ⟨m, rfl, h.resolve_left hl⟩
def most (k : Nat) : Nat := if k = 0 then 2 else 4
/-- So many pieces have been open, and what is left. -/
def FwI (cl : Int → Int) (kind : Nat) (K o : Nat) (f : Nat → Int) (n : Nat) : Prop := (o = 0 ∧ rest f n = K) ∨ (0 < o ∧ o ≤ most K ∧ Np cl kind (most K - o) (pts f n))
theorem FwI.le {K o n : Nat} {f : Nat → Int} (h : FwI cl kind K o f n) : o ≤ most K := by
  rcases h with ⟨h, _⟩ | ⟨_, h, _⟩
  · omega
  · exact h
theorem dec_in (hk : kind = 1 ∨ kind = 2 ∨ kind = 3) {l : List Int} {k : Nat} (hd : Dec cl kind k l) : (piece cl kind l).1 ≤ k := by
  have hR := hd.1
  have W := way (cl := cl) l hk
  generalize piece cl kind l = q at hR W
  rcases W with ⟨w, n, h, hw, h0, rfl⟩ | ⟨n, rfl⟩ | ⟨h, h2, rfl⟩ | ⟨h, rfl⟩ | ⟨h3, h, rfl⟩
  · exact hR
  · simp only at hR ⊢; omega
  · simp only at hR ⊢; omega
  · exact hR
  ·
    have := lastL_le (cl := cl) (sp cl l) l
    simp only at hR ⊢
    omega
theorem next_le (f : Nat → Int) (n : Nat) : next cl kind f n ≤ n := (drop_is _ n f (piece_le _)).1
theorem next_pos (hr : ∀ p, 0 ≤ cl p ∧ cl p ≤ 4) {f : Nat → Int} {n : Nat} (hn : 0 < n) : 0 < next cl kind f n := by
  have hp := piece_pos0 (kind := kind) hr (pts_ne (f := f) hn)
  obtain ⟨l1, l2, _⟩ := lens_is n n f (Nat.le_refl _)
  have := sum_lt (N := 0) l2 hp (by rw [l1]; exact piece_le _)
  unfold next
  simpa using this
theorem few_step (U : Us cl) (hk : kind = 1 ∨ kind = 2 ∨ kind = 3) {f : Nat → Int} {n K o : Nat} (hn : 0 < n) (h : FwI cl kind K o f n) :
    (o = 0 ∧ Dec cl kind (sure f n) (pts f n) ∧ FwI cl kind K 0 (sh f (next cl kind f n)) (n - next cl kind f n)) ∨ (¬ (o = 0 ∧ Dec cl kind (sure f n) (pts f n)) ∧ FwI cl kind K (o + 1) (sh f (next cl kind f n)) (n - next cl kind f n)) := by
  obtain ⟨_, d2, _⟩ := drop_is (piece cl kind (pts f n)).1 n f (piece_le _)
  have d2 : pts (sh f (next cl kind f n)) (n - next cl kind f n) = (pts f n).drop (piece cl kind (pts f n)).1 := d2
  rcases h with ⟨rfl, hK⟩ | ⟨h0, h1, h2⟩
  · by_cases hd : Dec cl kind (sure f n) (pts f n)
    · left
      obtain ⟨h1, _⟩ := drop_sure (piece cl kind (pts f n)).1 n f (dec_in hk hd)
      exact ⟨rfl, hd, .inl ⟨rfl, by rw [← hK]; exact h1⟩⟩
    · right
      refine ⟨fun e => hd e.2, .inr ⟨by omega, by unfold most; split <;> omega, ?_⟩⟩
      have e := pts_parts f n
      have hu : ¬ Dec cl kind (pts f (n - rest f n)).length (pts f (n - rest f n) ++ no (rest f n)) := by rw [← e]; exact hd
      have hf := few U hk hu
      rw [← e, hK] at hf
      obtain ⟨m, hm, h3⟩ := np_next (n := most K) hf (pts_ne hn)
      rw [d2, hm]
      simpa using h3
  · right
    obtain ⟨m, hm, h3⟩ := np_next h2 (pts_ne hn)
    refine ⟨fun e => by omega, .inr ⟨by omega, by omega, ?_⟩⟩
    rw [d2, show most K - (o + 1) = m by omega]
    exact h3
/-! ### what a piece holds -/
/-- A class, Lines as spaces. -/
def cs (cl : Int → Int) (p : Int) : Int := if cl p = 4 then 3 else cl p
/-- How many kinds of points follow each other, but for one behind a blank at the front. -/
def kds (cl : Int → Int) (b32 : Prop) [Decidable b32] : Nat → Int → List Int → Nat
  | _, _, [] => 0
  | i, z, p :: l => (if cs cl p ≠ z ∧ ¬ (i = 1 ∧ b32 ∧ cs cl p ≠ 3) then 1 else 0) + kds cl b32 (i + 1) (cs cl p) l
def nums (cl : Int → Int) : List Int → Nat
  | [] => 0
  | p :: l => (if cl p = 2 then 1 else 0) + nums cl l
/-- A space behind another sign. -/
def late (cl : Int → Int) : Int → List Int → Prop
  | _, [] => False
  | z, p :: l => (cs cl p = 3 ∧ 0 ≤ z ∧ z ≠ 3) ∨ late cl (cs cl p) l
theorem kds_same {b32 : Prop} [Decidable b32] {c : Int} : ∀ {i : Nat} {l : List Int}, (∀ p ∈ l, cs cl p = c) → kds cl b32 i c l = 0
  | _, [], _ => rfl
  | i, p :: l, h => by
    have hp := h p (by simp)
    unfold kds
    rw [if_neg (fun e => e.1 hp), hp, kds_same (fun x hx => h x (by simp [hx]))]
theorem kds_all {b32 : Prop} [Decidable b32] {c : Int} {l : List Int} (h : ∀ p ∈ l, cs cl p = c) : kds cl b32 0 (-1) l ≤ 1 := by
  cases l with
  | nil => exact Nat.zero_le _
  | cons p l =>
    have hp := h p (by simp)
    unfold kds
    rw [hp, kds_same (fun x hx => h x (by simp [hx]))]
    split <;> omega
theorem tw_take {q : Int → Bool} : ∀ {l : List Int} {n : Nat}, n ≤ tw q l → ∀ p ∈ l.take n, q p = true
  | [], n, _, p, hp => by simp at hp
  | x :: l, 0, _, p, hp => by simp at hp
  | x :: l, n + 1, h, p, hp => by
    cases hq : q x with
    | false => rw [tw_cons_no hq] at h; omega
    | true =>
      rw [tw_cons_yes hq] at h
      rw [List.take_succ_cons] at hp
      rcases List.mem_cons.1 hp with rfl | hp
      · exact hq
      · exact tw_take (by omega) p hp
theorem cs_of {p c : Int} (h : isC cl c p = true) (hc : c ≠ 4) : cs cl p = c := by
  have : cl p = c := by simpa [isC] using h
  unfold cs
  rw [this, if_neg hc]
theorem cs_sp {p : Int} (h : isS cl p = true) : cs cl p = 3 := by
  have : cl p = 3 ∨ cl p = 4 := by simpa [isS] using h
  unfold cs
  rcases this with h | h <;> rw [h] <;> decide
/-- A row of a class, a blank ahead: one kind. -/
theorem kds_led (U : Us cl) {c : Int} (hc : c = 0 ∨ c = 1 ∨ c = 2) (l : List Int) : kds cl (l.head? = some 32) 0 (-1) (l.take (led cl c l)) ≤ 1 := by
  unfold led
  split
  · rename_i h
    cases l with
    | nil => simp at h
    | cons p l =>
      obtain ⟨h1, h2⟩ := h
      have hp : p = 32 := by simpa using h1
      subst hp
      simp only [List.drop_succ_cons, List.drop_zero] at h2 ⊢
      rw [Nat.add_comm 1, List.take_succ_cons]
      have hall := tw_take (q := isC cl c) (l := l) (n := rn cl c l) (Nat.le_refl _)
      have h32 : cs cl 32 = 3 := by unfold cs; rw [U.blank]; decide
      unfold kds
      rw [h32, if_pos ⟨by decide, fun e => by omega⟩]
      generalize l.take (rn cl c l) = m at hall
      cases m with
      | nil => simp [kds]
      | cons q m =>
        have hq := cs_of (hall q (by simp)) (by omega)
        unfold kds
        rw [hq, if_neg (fun e => e.2 ⟨rfl, rfl, by omega⟩), kds_same (fun x hx => cs_of (hall x (by simp [hx])) (by omega))]
        omega
  · exact kds_all (c := c) (fun p hp => cs_of (tw_take (q := isC cl c) (Nat.le_refl _) p hp) (by omega))
theorem blanks_kds {b32 : Prop} [Decidable b32] (l : List Int) : kds cl b32 0 (-1) (l.take (blanks cl l).1) ≤ 1 := by
  have h : (blanks cl l).1 ≤ sp cl l := by
    unfold blanks
    split
    · simp only; omega
    · exact Nat.le_refl _
  exact kds_all (c := 3) (fun p hp => cs_sp (tw_take (q := isS cl) h p hp))
/-- By Plain: Letters, Numbers, or others alone, but for a blank ahead, or an ending, or spaces. -/
theorem plain_kds (U : Us cl) (l : List Int) : kds cl (l.head? = some 32) 0 (-1) (l.take (plain cl l).1) ≤ 1 ∨ (0 < ending false l ∧ (plain cl l).1 = ending false l) := by
  unfold plain
  split
  · exact .inr ⟨by assumption, rfl⟩
  · left
    split
    · exact kds_led U (by omega) l
    · split
      · exact kds_led U (by omega) l
      · split
        · exact kds_led U (by omega) l
        · exact blanks_kds l
theorem nums_none : ∀ {l : List Int}, (∀ p ∈ l, cl p ≠ 2) → nums cl l = 0
  | [], _ => rfl
  | p :: l, h => by unfold nums; rw [if_neg (h p (by simp)), nums_none (fun x hx => h x (by simp [hx]))]
theorem nums_le : ∀ l : List Int, nums cl l ≤ l.length
  | [] => Nat.le_refl _
  | p :: l => by
    have := nums_le l
    unfold nums
    rw [List.length_cons]
    split <;> omega
theorem nums_app : ∀ a b : List Int, nums cl (a ++ b) = nums cl a + nums cl b
  | [], b => by simp [nums]
  | p :: a, b => by rw [List.cons_append, nums, nums, nums_app a b]; omega
theorem not_two {c : Int} (hc : c ≠ 2) {p : Int} (h : isC cl c p = true) : cl p ≠ 2 := by
  have : cl p = c := by simpa [isC] using h
  omega
theorem led_take {c : Int} (hc : c ≠ 2) (U : Us cl) (l : List Int) : ∀ p ∈ l.take (led cl c l), cl p ≠ 2 := by
  unfold led
  split
  · rename_i h
    cases l with
    | nil => simp at h
    | cons x l =>
      have hx : x = 32 := by simpa using h.1
      subst hx
      simp only [List.drop_succ_cons, List.drop_zero]
      rw [Nat.add_comm 1, List.take_succ_cons]
      intro p hp
      rcases List.mem_cons.1 hp with rfl | hp
      · rw [U.blank]; decide
      · exact not_two hc (tw_take (q := isC cl c) (Nat.le_refl _) p hp)
  · exact fun p hp => not_two hc (tw_take (q := isC cl c) (Nat.le_refl _) p hp)
/-- By Wide: no more than three Numbers. -/
theorem wide_nums (U : Us cl) (l : List Int) : nums cl (l.take (wide cl l).1) ≤ 3 := by
  have spc : ∀ n, n ≤ sp cl l → nums cl (l.take n) = 0 := fun n hn => nums_none (fun p hp => by
    have := tw_take (q := isS cl) hn p hp
    have h : cl p = 3 ∨ cl p = 4 := by simpa [isS] using this
    omega)
  unfold wide
  split
  · have h1 := nums_le (cl := cl) (l.take (ending true l))
    have h2 := ending_le true l
    rw [List.length_take] at h1
    simp only
    omega
  · split
    · have := nums_none (cl := cl) (l := l.take (rn cl 1 l)) (fun p hp => not_two (by decide) (tw_take (q := isC cl 1) (Nat.le_refl _) p hp))
      simp only [more]
      omega
    · split
      · rename_i h
        cases l with
        | nil => simp [nums]
        | cons x l =>
          simp only [List.drop_succ_cons, List.drop_zero, more]
          rw [Nat.add_comm 1, List.take_succ_cons]
          have := nums_none (cl := cl) (l := x :: l.take (rn cl 1 l)) (fun p hp => by
            rcases List.mem_cons.1 hp with rfl | hp
            · exact h.1.1
            · exact not_two (by decide) (tw_take (q := isC cl 1) (Nat.le_refl _) p hp))
          omega
      · split
        · have h1 := nums_le (cl := cl) (l.take 3)
          rw [List.length_take] at h1
          simp only
          omega
        · split
          · rename_i h3 _
            have h1 := nums_le (cl := cl) (l.take (rn cl 2 l))
            rw [List.length_take] at h1
            simp only [more]
            omega
          · split
            · simp only [more]
              rw [List.take_add, nums_app, nums_none (led_take (by decide) U l), nums_none (cl := cl) (l := (l.drop (led cl 0 l)).take (rn cl 4 (l.drop (led cl 0 l)))) (fun p hp => not_two (by decide) (tw_take (q := isC cl 4) (Nat.le_refl _) p hp))]
              omega
            · split
              · rw [spc _ (lastL_le _ _)]
                omega
              · have h : (blanks cl l).1 ≤ sp cl l := by
                  unfold blanks
                  split
                  · simp only; omega
                  · exact Nat.le_refl _
                rw [spc _ h]
                omega
theorem late_sp : ∀ {l : List Int} {z : Int}, (z = -1 ∨ z = 3) → (∀ p ∈ l, cs cl p = 3) → ∀ m : List Int, (∀ p ∈ m, cs cl p ≠ 3) → ¬ late cl z (l ++ m)
  | p :: l, z, hz, h, m, hm => by
    have hp := h p (by simp)
    rw [List.cons_append]
    unfold late
    rw [hp]
    rintro (e | e)
    · omega
    · exact late_sp (.inr rfl) (fun x hx => h x (by simp [hx])) m hm e
  | [], z, hz, _, m, hm => by
    rw [List.nil_append]
    clear hz
    induction m generalizing z with
    | nil => exact id
    | cons p m ih =>
      unfold late
      rintro (e | e)
      · exact hm p (by simp) e.1
      · exact ih _ (fun x hx => hm x (by simp [hx])) e
/-- By Blank: no space behind another sign. -/
theorem word_late (l : List Int) : ¬ late cl (-1) (l.take (word cl l).1) := by
  unfold word
  simp only [more]
  rw [List.take_add]
  refine late_sp (.inl rfl) (fun p hp => cs_sp (tw_take (q := isS cl) (Nat.le_refl _) p hp)) _ (fun p hp => ?_)
  have := tw_take (q := isN cl) (Nat.le_refl _) p hp
  have h : cl p ≠ 3 ∧ cl p ≠ 4 := by simpa [isN] using this
  unfold cs
  rw [if_neg h.2]
  exact h.1
end
end Sc
end Go.Proofs.YtiheagkgpbkkfaaDoor

/-
  What stage 12's laws ask of bytes, in plain mathematics: the points of a piece; signs of one byte.
-/
namespace Go.Proofs.YtiheagkgpbkkfaaDoor
set_option linter.unusedVariables false
namespace Sc
open Utf
/-- What decoding tells, as if nothing came behind, it tells of a first part that holds it. -/
theorem dec_cut {f : Nat → Int} {m n : Nat} (h1 : 1 ≤ m) (hmn : m ≤ n) (hN : stepN f n true ≤ m) : dec f m true = dec f n true := by
  unfold stepN at hN
  rcases dec_cases f n true (by omega) with ⟨s, h0, hs1, hs, hok, e⟩ | ⟨x, _⟩ | ⟨e, hno⟩
  · rw [e] at hN ⊢
    simp at hN
    have := sizeOf_bd (f 0)
    exact (dec_full (by omega) (by omega) (by omega) hs).1 hok
  · cases x
  · rw [e]
    rcases dec_cases f m true h1 with ⟨s, h0, hs1, hs, hok, _⟩ | ⟨x, _⟩ | ⟨e', _⟩
    · exact absurd hok (hno s h0 (by omega) hs)
    · cases x
    · exact e'
/-- The points of a piece are the first ones. -/
theorem take_is : ∀ (N n : Nat) (f : Nat → Int), N ≤ (pts f n).length → pts f ((lens f n).take N).sum = (pts f n).take N
  | 0, n, f, _ => by simp [pts_zero]
  | N + 1, n, f, h => by
    have hn : 0 < n := by
      by_cases h0 : n = 0
      · subst h0; simp [pts_zero] at h
      · omega
    have hs := step_true (f := f) (n := n) hn
    rw [pts_step f hn, List.length_cons] at h
    have ih := take_is N (n - stepN f n true) (sh f (stepN f n true)) (by omega)
    obtain ⟨hd, _, _⟩ := drop_is N (n - stepN f n true) (sh f (stepN f n true)) (by omega)
    rw [lens_step f hn, pts_step f hn, List.take_succ_cons, List.take_succ_cons, List.sum_cons]
    have ed : dec f (stepN f n true + ((lens (sh f (stepN f n true)) (n - stepN f n true)).take N).sum) true = dec f n true := dec_cut (by omega) (by omega) (by omega)
    have es : stepN f (stepN f n true + ((lens (sh f (stepN f n true)) (n - stepN f n true)).take N).sum) true = stepN f n true := by
      show (dec f _ true).2.1.toNat = (dec f n true).2.1.toNat
      rw [ed]
    rw [pts_step f (n := stepN f n true + ((lens (sh f (stepN f n true)) (n - stepN f n true)).take N).sum) (by omega), ed, es, Nat.add_sub_cancel_left, ih]
/-- A code point of less than 128 is its one byte. -/
theorem dec_low {f : Nat → Int} {n : Nat} {fin : Bool} (hn : 0 < n) (hz : ∀ i, 0 ≤ f i) (h0 : 0 ≤ (dec f n fin).1) (h1 : (dec f n fin).1 < 128) : dec f n fin = (f 0, 1, false) := by
  rcases dec_cases f n fin hn with ⟨s, hs0, hs1, hs, hok, e⟩ | ⟨_, _, _, e⟩ | ⟨e, _⟩
  · rw [e] at h0 h1 ⊢
    simp only at h0 h1
    have hsb := sizeOf_bd (f 0)
    have hf0 := hz 0
    by_cases s1 : s = 1
    · subst s1
      simp [p0, jn]
    · exfalso
      have hk : s = 2 ∨ s = 3 ∨ s = 4 := by omega
      have o1 := okAt_one.1 (hok 1 (by omega) (by omega))
      have l1 := lo2_eq (f 0)
      unfold Utf.sizeOf at hs
      rcases hk with rfl | rfl | rfl
      · have hc : 194 ≤ f 0 ∧ f 0 < 224 := by
          split at hs
          · omega
          · split at hs
            · omega
            · split at hs
              · omega
              · split at hs
                · omega
                · split at hs <;> omega
        have := l1.2.2 (by omega) (by omega)
        simp [p0, jn] at h1
        omega
      · have hc : 224 ≤ f 0 ∧ f 0 < 240 := by
          split at hs
          · omega
          · split at hs
            · omega
            · split at hs
              · omega
              · split at hs
                · omega
                · split at hs <;> omega
        have o2 := (okAt_more (f := f) (j := 2) (by decide)).1 (hok 2 (by omega) (by omega))
        simp [p0, jn] at h1
        by_cases h224 : f 0 = 224
        · have := l1.1 h224
          have := (hi2_eq (f 0)).2.2 (by omega) (by omega)
          omega
        · have := l1.2.2 h224 (by omega)
          omega
      · have hc : 240 ≤ f 0 ∧ f 0 < 245 := by
          split at hs
          · omega
          · split at hs
            · omega
            · split at hs
              · omega
              · split at hs
                · omega
                · split at hs <;> omega
        have o2 := (okAt_more (f := f) (j := 2) (by decide)).1 (hok 2 (by omega) (by omega))
        have o3 := (okAt_more (f := f) (j := 3) (by decide)).1 (hok 3 (by omega) (by omega))
        simp [p0, jn] at h1
        by_cases h240 : f 0 = 240
        · have := l1.2.1 h240
          have := (hi2_eq (f 0)).2.2 (by omega) (by omega)
          omega
        · have := l1.2.2 (by omega) h240
          omega
  · rw [e] at h0; simp at h0
  · rw [e] at h0; simp at h0
/-- The first point is this sign, just if the first byte is. -/
theorem head_is {f : Nat → Int} {n : Nat} (hn : 0 < n) (hz : ∀ i, 0 ≤ f i) {x : Int} (h0 : 0 ≤ x) (h1 : x < 128) : (pts f n).head? = some x ↔ f 0 = x := by
  rw [pts_step f hn]
  simp only [List.head?_cons, Option.some.injEq]
  constructor
  · intro h
    have := dec_low (f := f) (n := n) (fin := true) hn hz (by omega) (by omega)
    rw [this] at h
    exact h
  · rintro rfl
    rw [dec_ascii hn h0 h1 true]
/-- So many points of one byte each. -/
theorem ones : ∀ (N n : Nat) (f : Nat → Int), (∀ i, 0 ≤ f i) → N ≤ (pts f n).length → (∀ p ∈ (pts f n).take N, 0 ≤ p ∧ p < 128) → ((lens f n).take N).sum = N
  | 0, n, f, _, _, _ => by simp
  | N + 1, n, f, hz, h, hp => by
    have hn : 0 < n := by
      by_cases h0 : n = 0
      · subst h0; simp [pts_zero] at h
      · omega
    rw [pts_step f hn, List.length_cons] at h
    rw [pts_step f hn, List.take_succ_cons] at hp
    have hd := dec_low (f := f) (n := n) (fin := true) hn hz (hp _ (by simp)).1 (hp _ (by simp)).2
    have es : stepN f n true = 1 := by unfold stepN; rw [hd]; rfl
    have ih := ones N (n - stepN f n true) (sh f (stepN f n true)) (fun i => hz _) (by omega) (fun p hq => hp p (by simp [hq]))
    rw [lens_step f hn, List.take_succ_cons, List.sum_cons, ih, es]
    omega
theorem eqw_low {w : Bool} {p x : Int} (h : eqw w p x = true) (h0 : 33 ≤ x) (h1 : x < 128) : 0 ≤ p ∧ p < 128 := by
  unfold eqw at h
  simp only [Bool.or_eq_true, Bool.and_eq_true, beq_iff_eq] at h
  rcases h with h | ⟨_, h⟩ <;> omega
/-- An ending has as many bytes as points. -/
theorem ending_low {w : Bool} {l : List Int} (h : 0 < ending w l) : ∀ p ∈ l.take (ending w l), 0 ≤ p ∧ p < 128 := by
  match l, h with
  | [], h => simp [ending] at h
  | [x], h => simp [ending] at h
  | x :: y :: r, h =>
    by_cases hx : x = 39
    · subst hx
      by_cases hs : (eqw w y 115 || eqw w y 116 || eqw w y 109 || eqw w y 100) = true
      · have e : ending w (39 :: y :: r) = 2 := by simp [ending, hs]
        rw [e]
        intro p hp
        simp only [List.take_succ_cons, List.take_zero, List.mem_cons, List.not_mem_nil, or_false] at hp
        simp only [Bool.or_eq_true] at hs
        rcases hp with rfl | rfl
        · omega
        · rcases hs with ((hs | hs) | hs) | hs <;> exact eqw_low hs (by omega) (by omega)
      · have hs' : (eqw w y 115 || eqw w y 116 || eqw w y 109 || eqw w y 100) = false := by simpa using hs
        cases r with
        | nil => simp [ending, hs'] at h
        | cons z r =>
          by_cases h3 : (eqw w y 114 && eqw w z 101 || eqw w y 118 && eqw w z 101 || eqw w y 108 && eqw w z 108) = true
          · have e : ending w (39 :: y :: z :: r) = 3 := by
              unfold ending
              simp only [if_true, hs', Bool.false_eq_true, if_false]
              rw [if_pos h3]
            rw [e]
            intro p hp
            simp only [List.take_succ_cons, List.take_zero, List.mem_cons, List.not_mem_nil, or_false] at hp
            simp only [Bool.or_eq_true, Bool.and_eq_true] at h3
            rcases hp with rfl | rfl | rfl
            · omega
            · rcases h3 with (h3 | h3) | h3 <;> exact eqw_low h3.1 (by omega) (by omega)
            · rcases h3 with (h3 | h3) | h3 <;> exact eqw_low h3.2 (by omega) (by omega)
          · exfalso
            unfold ending at h
            simp only [if_true, hs', Bool.false_eq_true, if_false] at h
            rw [if_neg h3] at h
            omega
    · simp [ending, hx] at h
end Sc
end Go.Proofs.YtiheagkgpbkkfaaDoor
