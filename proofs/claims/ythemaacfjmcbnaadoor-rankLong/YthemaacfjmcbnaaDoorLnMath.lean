/-
  Pieces of a text between signs, lines and words: plain mathematics.
-/
namespace Go.Proofs.YthemaacfjmcbnaaDoor.Ln

/-- The pieces of a text between the signs c, 'acc' being what stands ahead of it. -/
def pcs (c : UInt8) : List UInt8 → List UInt8 → List (List UInt8)
  | acc, [] => [acc]
  | acc, b :: r => if b = c then acc :: pcs c [] r else pcs c (acc ++ [b]) r

theorem pcs_nil (c : UInt8) (acc : List UInt8) : pcs c acc [] = [acc] := rfl
theorem pcs_hit (c : UInt8) (acc r : List UInt8) : pcs c acc (c :: r) = acc :: pcs c [] r := by rw [pcs, if_pos rfl]
theorem pcs_miss {c b : UInt8} (h : b ≠ c) (acc r : List UInt8) : pcs c acc (b :: r) = pcs c (acc ++ [b]) r := by rw [pcs, if_neg h]
theorem pcs_ne (c : UInt8) : ∀ (l acc : List UInt8), pcs c acc l ≠ []
  | [], acc => by simp [pcs]
  | b :: r, acc => by
    unfold pcs
    split
    · simp
    · exact pcs_ne c r _
theorem pcs_app (c : UInt8) (b : List UInt8) : ∀ (a acc : List UInt8), pcs c acc (a ++ c :: b) = pcs c acc a ++ pcs c [] b
  | [], acc => by rw [List.nil_append, pcs_hit, pcs_nil]; rfl
  | x :: a, acc => by
    by_cases h : x = c
    · subst h
      rw [List.cons_append, pcs_hit, pcs_hit, pcs_app x b a, List.cons_append]
    · rw [List.cons_append, pcs_miss h, pcs_miss h, pcs_app c b a]
theorem pcs_snoc (c : UInt8) (a acc : List UInt8) : pcs c acc (a ++ [c]) = pcs c acc a ++ [[]] := by rw [pcs_app c [] a acc, pcs_nil]

/-- A text without a line feed at its end. -/
def trim (l : List UInt8) : List UInt8 := if l.getLast? = some 10 then l.dropLast else l
/-- The lines of a text. -/
def lines (l : List UInt8) : List (List UInt8) := if l = [] then [] else pcs 10 [] (trim l)
/-- Behind these bytes an empty line stands ahead of what follows. -/
def gap (a : List UInt8) : List (List UInt8) := if a = [] ∨ a.getLast? = some 10 then [[]] else []

theorem last_split {l : List UInt8} {x : UInt8} (h : l.getLast? = some x) : l = l.dropLast ++ [x] := by
  have hne : l ≠ [] := by rintro rfl; simp at h
  rw [List.getLast?_eq_some_getLast hne] at h
  rw [← Option.some.inj h]
  exact (List.dropLast_concat_getLast hne).symm
theorem trim_snoc (l : List UInt8) : trim (l ++ [10]) = l := by unfold trim; simp
theorem lines_all (a : List UInt8) : pcs 10 [] a = lines a ++ gap a := by
  unfold lines gap
  by_cases h0 : a = []
  · subst h0; simp [pcs]
  · rw [if_neg h0]
    by_cases h1 : a.getLast? = some 10
    · rw [if_pos (.inr h1)]
      have e := last_split h1
      conv => lhs; rw [e]
      rw [pcs_snoc, trim, if_pos h1]
    · rw [if_neg (by simp [h0, h1]), trim, if_neg h1, List.append_nil]
theorem lines_join (a b : List UInt8) : lines (a ++ 10 :: b) = lines a ++ gap a ++ lines b := by
  rw [← lines_all a]
  unfold lines
  rw [if_neg (by simp)]
  by_cases h0 : b = []
  · subst h0
    rw [if_pos rfl, trim_snoc, List.append_nil]
  · rw [if_neg h0, ← pcs_app]
    congr 1
    unfold trim
    have e1 : (a ++ 10 :: b).getLast? = b.getLast? := by
      rw [List.getLast?_append, List.getLast?_cons, List.getLast?_eq_some_getLast h0]; simp
    rw [e1]
    split
    · rw [List.dropLast_append_of_ne_nil (by simp), List.dropLast_cons_of_ne_nil h0]
    · rfl
/-- What the pieces without the last one are, if the text ends with a line feed; all of them, if not. -/
theorem lines_ends {l : List UInt8} {out : List (List UInt8)} {last : List UInt8} (h : pcs 10 [] l = out ++ [last]) (hl : l.getLast? = some 10) : out = lines l := by
  have e := lines_all l
  rw [h, gap, if_pos (.inr hl)] at e
  exact (List.append_inj' e rfl).1
theorem lines_goes {l : List UInt8} {out : List (List UInt8)} {last : List UInt8} (h : pcs 10 [] l = out ++ [last]) (h0 : l ≠ []) (hl : l.getLast? ≠ some 10) : out ++ [last] = lines l := by
  have e := lines_all l
  rw [h, gap, if_neg (by simp [h0, hl]), List.append_nil] at e
  exact e

/-- The words of a line; none, if it has an empty one. -/
def words (l : List UInt8) : List (List UInt8) := if [] ∈ pcs 32 [] l then [] else pcs 32 [] l
theorem words_bad {l : List UInt8} {pre rest : List (List UInt8)} (h : pcs 32 [] l = pre ++ [] :: rest) : words l = [] := by
  unfold words; rw [if_pos (by rw [h]; simp)]
theorem words_good {l : List UInt8} (h : ∀ x ∈ pcs 32 [] l, x ≠ []) : words l = pcs 32 [] l := by
  unfold words; rw [if_neg (fun hm => h [] hm rfl)]
/-- Words with one blank between. -/
def jn : List (List UInt8) → List UInt8
  | [] => []
  | [x] => x
  | x :: y :: r => x ++ 32 :: jn (y :: r)
theorem jn_snoc (x : List UInt8) : ∀ (l : List (List UInt8)), l ≠ [] → jn (l ++ [x]) = jn l ++ 32 :: x
  | [], h => absurd rfl h
  | [y], _ => by simp [jn]
  | y :: z :: r, _ => by
    have ih := jn_snoc x (z :: r) (by simp)
    simp only [List.cons_append] at ih ⊢
    rw [jn, ih, jn]
    simp
theorem jn_pcs : ∀ (l acc : List UInt8) (pre : List (List UInt8)), jn (pre ++ pcs 32 acc l) = jn (pre ++ [acc ++ l])
  | [], acc, pre => by rw [pcs_nil, List.append_nil]
  | b :: r, acc, pre => by
    by_cases h : b = 32
    · subst h
      have ih := jn_pcs r [] (pre ++ [acc])
      rw [pcs_hit, show pre ++ acc :: pcs 32 [] r = (pre ++ [acc]) ++ pcs 32 [] r by simp, ih, jn_snoc _ _ (by simp), List.nil_append]
      cases pre with
      | nil => simp [jn]
      | cons p ps => rw [jn_snoc _ _ (by simp), jn_snoc _ _ (by simp)]; simp
    · rw [pcs_miss h, jn_pcs r _ pre]; simp
theorem jn_words (l : List UInt8) : jn (pcs 32 [] l) = l := by
  have := jn_pcs l [] []
  simpa [jn] using this
end Go.Proofs.YthemaacfjmcbnaaDoor.Ln
