/-
  Circles of places in plain mathematics; entries of four cells as lists of values. No program is named here.
-/
import Derived.Test.YtbcanfelfdalbaaLotT
namespace Go.Proofs.Ytbcanfelfdalbaa
open Go.RowKit
set_option linter.unusedVariables false
namespace Ca
/-- From a on through l to b: which one is behind each (nw), and which one ahead of it (ol). -/
def Ch (ol nw : Nat → Nat) : Nat → List Nat → Nat → Prop
  | a, [], b => nw a = b ∧ ol b = a
  | a, x :: l, b => nw a = x ∧ ol x = a ∧ Ch ol nw x l b
section
variable {ol nw ol' nw' : Nat → Nat} {a b x : Nat} {l l1 l2 : List Nat}
theorem Ch.app : Ch ol nw a (l1 ++ x :: l2) b ↔ Ch ol nw a l1 x ∧ Ch ol nw x l2 b := by
  induction l1 generalizing a with
  | nil =>
    constructor
    · rintro ⟨h1, h2, h3⟩
      exact ⟨⟨h1, h2⟩, h3⟩
    · rintro ⟨⟨h1, h2⟩, h3⟩
      exact ⟨h1, h2, h3⟩
  | cons y l ih =>
    constructor
    · rintro ⟨h1, h2, h3⟩
      obtain ⟨h4, h5⟩ := ih.1 h3
      exact ⟨⟨h1, h2, h4⟩, h5⟩
    · rintro ⟨⟨h1, h2, h4⟩, h5⟩
      exact ⟨h1, h2, ih.2 ⟨h4, h5⟩⟩
theorem Ch.congr (h : Ch ol nw a l b) (hn : ∀ i ∈ a :: l, nw' i = nw i) (ho : ∀ i, i ∈ l ∨ i = b → ol' i = ol i) : Ch ol' nw' a l b := by
  induction l generalizing a with
  | nil => exact ⟨(hn a (by simp)).trans h.1, (ho b (.inr rfl)).trans h.2⟩
  | cons y l ih => exact ⟨(hn a (by simp)).trans h.1, (ho y (.inl (by simp))).trans h.2.1, ih h.2.2 (fun i hi => hn i (List.mem_cons_of_mem _ hi)) (fun i hi => ho i (hi.imp (List.mem_cons_of_mem _) id))⟩
theorem Ch.ol_mem (h : Ch ol nw a l b) : ol b ∈ a :: l := by
  induction l generalizing a with
  | nil => rw [h.2]; simp
  | cons y l ih => exact List.mem_cons_of_mem _ (ih h.2.2)
theorem Ch.nw_mem (h : Ch ol nw a l b) : nw a ∈ l ∨ nw a = b := by
  cases l with
  | nil => exact .inr h.1
  | cons y l => exact .inl (by rw [h.1]; simp)
theorem Ch.nw_all (h : Ch ol nw a l b) : ∀ i ∈ a :: l, nw i ∈ l ∨ nw i = b := by
  induction l generalizing a with
  | nil =>
    intro i hi
    rw [List.mem_singleton.1 hi]
    exact .inr h.1
  | cons y l ih =>
    intro i hi
    rcases List.mem_cons.1 hi with rfl | hi
    · exact .inl (by rw [h.1]; simp)
    · exact (ih h.2.2 i hi).imp (List.mem_cons_of_mem _) id
theorem Ch.ol_all (h : Ch ol nw a l b) : ∀ i, i ∈ l ∨ i = b → ol i ∈ a :: l := by
  induction l generalizing a with
  | nil =>
    rintro i (hi | rfl)
    · cases hi
    · rw [h.2]; simp
  | cons y l ih =>
    rintro i (hi | rfl)
    · rcases List.mem_cons.1 hi with rfl | hi
      · rw [h.2.1]; simp
      · exact List.mem_cons_of_mem _ (ih h.2.2 i (.inl hi))
    · exact List.mem_cons_of_mem _ (ih h.2.2 i (.inr rfl))
/-- One taken out from between its neighbours. -/
theorem Ch.cut (h1 : Ch ol nw a l1 x) (h2 : Ch ol nw x l2 b) (hn : (a :: (l1 ++ l2)).Nodup) (ho : (l1 ++ (l2 ++ [b])).Nodup)
    (hN : ∀ i, nw' i = if i = ol x then nw x else nw i) (hO : ∀ i, ol' i = if i = nw x then ol x else ol i) : Ch ol' nw' a (l1 ++ l2) b := by
  induction l1 generalizing a with
  | nil =>
    obtain ⟨e1, e2⟩ := h1
    cases l2 with
    | nil =>
      obtain ⟨e3, e4⟩ := h2
      exact ⟨by rw [hN, e2, if_pos rfl, e3], by rw [hO, e3, if_pos rfl, e2]⟩
    | cons y l =>
      obtain ⟨e3, e4, h3⟩ := h2
      have n1 := (List.nodup_cons.1 hn).1
      have n2 := (List.nodup_cons.1 ho).1
      refine ⟨by rw [hN, e2, if_pos rfl, e3], by rw [hO, e3, if_pos rfl, e2], h3.congr (fun i hi => ?_) (fun i hi => ?_)⟩
      · rw [hN, e2, if_neg (fun e => n1 (by rw [← e]; exact hi))]
      · rw [hO, e3, if_neg (fun e => n2 (by rw [← e]; rcases hi with h | rfl <;> simp_all))]
  | cons z l1 ih =>
    obtain ⟨e1, e2, h3⟩ := h1
    have n1 := List.nodup_cons.1 hn
    have n2 := List.nodup_cons.1 ho
    refine ⟨?_, ?_, ih h3 n1.2 n2.2⟩
    · rw [hN, if_neg (fun e => n1.1 ?_)]
      · exact e1
      · rw [e]
        rcases List.mem_cons.1 h3.ol_mem with h | h
        · rw [h]; simp
        · simp [h]
    · rw [hO, if_neg (fun e => n2.1 ?_)]
      · exact e2
      · rw [e]
        rcases h2.nw_mem with h | h
        · simp [h]
        · rw [h]; simp
/-- One laid ahead of the end. -/
theorem Ch.lay (h : Ch ol nw a l b) (hn : (a :: l).Nodup) (ho : (l ++ [b]).Nodup) (hx : x ∉ a :: l) (hb : x ≠ b)
    (hN : ∀ i, nw' i = if i = ol b then x else if i = x then b else nw i) (hO : ∀ i, ol' i = if i = b then x else if i = x then ol b else ol i) : Ch ol' nw' a (l ++ [x]) b := by
  induction l generalizing a with
  | nil =>
    obtain ⟨e1, e2⟩ := h
    have hxa : x ≠ a := fun e => hx (by simp [e])
    exact ⟨by rw [hN, e2, if_pos rfl], by rw [hO, if_neg hb, if_pos rfl, e2], by rw [hN, e2, if_neg hxa, if_pos rfl], by rw [hO, if_pos rfl]⟩
  | cons z l ih =>
    obtain ⟨e1, e2, h3⟩ := h
    have n1 := List.nodup_cons.1 hn
    have n2 := List.nodup_cons.1 ho
    have hxa : x ≠ a := fun e => hx (by simp [e])
    have hxz : x ≠ z := fun e => hx (by simp [e])
    refine ⟨?_, ?_, ih h3 n1.2 n2.2 (fun e => hx (List.mem_cons_of_mem _ e))⟩
    · rw [hN, if_neg (fun e => n1.1 (by rw [e]; exact h3.ol_mem)), if_neg (fun e => hxa e.symm)]
      exact e1
    · rw [hO, if_neg (fun e => n2.1 (by rw [e]; simp)), if_neg (fun e => hxz e.symm)]
      exact e2
end
/-- An entry: a key, a slice, the numbers that it leads to, the one ahead, the one behind. -/
structure En where
  k : ByteArray
  v : Sv
  x : Pr.Row
  o : Nat
  n : Nat
def up (e : Nat → En) (i : Nat) (f : En → En) : Nat → En := fun j => if j = i then f (e j) else e j
theorem up_at (e : Nat → En) (i : Nat) (f : En → En) : up e i f i = f (e i) := if_pos rfl
theorem up_ne (e : Nat → En) {i j : Nat} (f : En → En) (h : j ≠ i) : up e i f j = e j := if_neg h
/-- One of its four cells turned. -/
def sK (e : Nat → En) (i : Nat) (k : ByteArray) : Nat → En := up e i fun q => { q with k := k }
def sV (e : Nat → En) (i : Nat) (v : Sv) (x : Pr.Row) : Nat → En := up e i fun q => { q with v := v, x := x }
def sO (e : Nat → En) (i o : Nat) : Nat → En := up e i fun q => { q with o := o }
def sN (e : Nat → En) (i n : Nat) : Nat → En := up e i fun q => { q with n := n }
theorem sO_o (e : Nat → En) (i o j : Nat) : (sO e i o j).o = if j = i then o else (e j).o := by unfold sO up; split <;> rfl
theorem sO_n (e : Nat → En) (i o j : Nat) : (sO e i o j).n = (e j).n := by unfold sO up; split <;> rfl
theorem sN_n (e : Nat → En) (i n j : Nat) : (sN e i n j).n = if j = i then n else (e j).n := by unfold sN up; split <;> rfl
theorem sN_o (e : Nat → En) (i n j : Nat) : (sN e i n j).o = (e j).o := by unfold sN up; split <;> rfl
theorem sK_k (e : Nat → En) (i : Nat) (k : ByteArray) : (sK e i k i).k = k := by unfold sK; rw [up_at]
theorem sK_ne (e : Nat → En) {i j : Nat} (k : ByteArray) (h : j ≠ i) : sK e i k j = e j := up_ne e _ h
theorem sV_ne (e : Nat → En) {i j : Nat} (v : Sv) (x : Pr.Row) (h : j ≠ i) : sV e i v x j = e j := up_ne e _ h
theorem sV_at (e : Nat → En) (i : Nat) (v : Sv) (x : Pr.Row) : (sV e i v x i).k = (e i).k ∧ (sV e i v x i).v = v ∧ (sV e i v x i).x = x := by unfold sV; rw [up_at]; exact ⟨rfl, rfl, rfl⟩
theorem sK_on (e : Nat → En) (i : Nat) (k : ByteArray) (j : Nat) : (sK e i k j).o = (e j).o ∧ (sK e i k j).n = (e j).n := by unfold sK up; split <;> exact ⟨rfl, rfl⟩
theorem sV_on (e : Nat → En) (i : Nat) (v : Sv) (x : Pr.Row) (j : Nat) : (sV e i v x j).o = (e j).o ∧ (sV e i v x j).n = (e j).n := by unfold sV up; split <;> exact ⟨rfl, rfl⟩
/-- The key, the slice, the numbers of each. -/
def Sm (e e' : Nat → En) : Prop := ∀ i, (e' i).k = (e i).k ∧ (e' i).v = (e i).v ∧ (e' i).x = (e i).x
theorem Sm.trans {e e' e'' : Nat → En} (h : Sm e e') (h' : Sm e' e'') : Sm e e'' := fun i => ⟨(h' i).1.trans (h i).1, (h' i).2.1.trans (h i).2.1, (h' i).2.2.trans (h i).2.2⟩
theorem sO_sm (e : Nat → En) (i o : Nat) : Sm e (sO e i o) := fun j => by unfold sO up; split <;> exact ⟨rfl, rfl, rfl⟩
theorem sN_sm (e : Nat → En) (i n : Nat) : Sm e (sN e i n) := fun j => by unfold sN up; split <;> exact ⟨rfl, rfl, rfl⟩
/-- What becomes of them as one is made the newest: taken out; laid behind. -/
def mid (e : Nat → En) (a : Nat) : Nat → En := sO (sN e (e a).o (e a).n) (e a).n (e a).o
def fin (e : Nat → En) (a t : Nat) : Nat → En := sO (sN (sN (sO e a t) a 0) t a) 0 a
def rn (e : Nat → En) (a : Nat) : Nat → En := fin (mid e a) a (mid e a 0).o
theorem mid_n (e : Nat → En) (a i : Nat) : (mid e a i).n = if i = (e a).o then (e a).n else (e i).n := by unfold mid; rw [sO_n, sN_n]
theorem mid_o (e : Nat → En) (a i : Nat) : (mid e a i).o = if i = (e a).n then (e a).o else (e i).o := by unfold mid; rw [sO_o, sN_o]
theorem fin_n (e : Nat → En) (a t i : Nat) : (fin e a t i).n = if i = t then a else if i = a then 0 else (e i).n := by unfold fin; rw [sO_n, sN_n, sN_n, sO_n]
theorem fin_o (e : Nat → En) (a t i : Nat) : (fin e a t i).o = if i = 0 then a else if i = a then t else (e i).o := by unfold fin; rw [sO_o, sN_o, sN_o, sO_o]
theorem rn_sm (e : Nat → En) (a : Nat) : Sm e (rn e a) :=
  (((((sN_sm _ _ _).trans (sO_sm _ _ _)).trans (sO_sm _ _ _)).trans (sN_sm _ _ _)).trans (sN_sm _ _ _)).trans (sO_sm _ _ _)
/-- The circle of the places in p, of an entry that no key has. -/
def Ci (e : Nat → En) (p : List Nat) : Prop := Ch (fun i => (e i).o) (fun i => (e i).n) 0 p 0
theorem nodup_end {p : List Nat} (h : (0 :: p).Nodup) : (p ++ [0]).Nodup := by
  rw [List.nodup_append]
  obtain ⟨h1, h2⟩ := List.nodup_cons.1 h
  refine ⟨h2, by simp, fun i hi j hj e => h1 ?_⟩
  rw [List.mem_singleton.1 hj] at e
  rw [← e]
  exact hi
theorem erase_app {l1 l2 : List Nat} {a : Nat} (h : a ∉ l1) : (l1 ++ a :: l2).erase a = l1 ++ l2 := by
  rw [List.erase_append_right _ h]
  simp
theorem ci_in {e : Nat → En} {p : List Nat} {a : Nat} (h : Ci e p) (hp : (0 :: p).Nodup) (ha : a ∈ p) : Ci (rn e a) (p.erase a ++ [a]) ∧ Ci (mid e a) (p.erase a) := by
  obtain ⟨l1, l2, rfl⟩ := List.append_of_mem ha
  obtain ⟨h0, h1⟩ := List.nodup_cons.1 hp
  obtain ⟨n1, n2, n3⟩ := List.nodup_append.1 h1
  have hal : a ∉ l1 := fun h => n3 a h a (by simp) rfl
  have hal2 : a ∉ l2 := (List.nodup_cons.1 n2).1
  have ha0 : a ≠ 0 := fun e => h0 (by simp [e])
  have hn : (0 :: (l1 ++ l2)).Nodup := by
    refine List.nodup_cons.2 ⟨fun h => h0 ?_, List.nodup_append.2 ⟨n1, (List.nodup_cons.1 n2).2, fun i hi j hj => n3 i hi j (List.mem_cons_of_mem _ hj)⟩⟩
    rcases List.mem_append.1 h with h | h <;> simp [h]
  have ho := nodup_end hn
  rw [erase_app hal]
  obtain ⟨c1, c2⟩ := Ch.app.1 h
  have c3 : Ci (mid e a) (l1 ++ l2) := c1.cut c2 hn (by rw [← List.append_assoc]; exact ho) (fun i => mid_n e a i) (fun i => mid_o e a i)
  refine ⟨?_, c3⟩
  refine c3.lay hn ho (fun h => ?_) ha0 (fun i => fin_n _ _ _ i) (fun i => fin_o _ _ _ i)
  rcases List.mem_cons.1 h with h | h
  · exact ha0 h
  · rcases List.mem_append.1 h with h | h
    · exact hal h
    · exact hal2 h
theorem Ci.congr {e e' : Nat → En} {p : List Nat} (h : Ci e p) (he : ∀ i, (e' i).o = (e i).o ∧ (e' i).n = (e i).n) : Ci e' p := Ch.congr h (fun i _ => (he i).2) (fun i _ => (he i).1)
theorem Ci.on {e : Nat → En} {p : List Nat} {n : Nat} (h : Ci e p) (hl : ∀ i ∈ p, i < n) (hn : 0 < n) (i : Nat) (hi : i = 0 ∨ i ∈ p) : (e i).o < n ∧ (e i).n < n := by
  have h1 : i ∈ 0 :: p := List.mem_cons.2 hi
  have h2 : i ∈ p ∨ i = 0 := hi.symm
  constructor
  · rcases List.mem_cons.1 (Ch.ol_all h i h2) with h3 | h3
    · show (e i).o < n
      rw [show (e i).o = 0 from h3]; exact hn
    · exact hl _ h3
  · rcases Ch.nw_all h i h1 with h3 | h3
    · exact hl _ h3
    · show (e i).n < n
      rw [show (e i).n = 0 from h3]; exact hn
theorem ci_new {e : Nat → En} {p : List Nat} {a : Nat} (h : Ci e p) (hp : (0 :: p).Nodup) (ha : a ∉ 0 :: p) (h1 : (e a).o = a) (h2 : (e a).n = a) : Ci (rn e a) (p ++ [a]) ∧ Ci (mid e a) p := by
  have c3 : Ci (mid e a) p := Ch.congr h (fun i hi => by
    show (mid e a i).n = (e i).n
    rw [mid_n, h1]
    split
    · rename_i e1; rw [h2, e1, h2]
    · rfl) (fun i hi => by
    show (mid e a i).o = (e i).o
    rw [mid_o, h2]
    split
    · rename_i e1; rw [h1, e1, h1]
    · rfl)
  exact ⟨c3.lay hp (nodup_end hp) ha (fun e => ha (by simp [e])) (fun i => fin_n _ _ _ i) (fun i => fin_o _ _ _ i), c3⟩
end Ca
open Ca
/-- Entries as values: four cells each. -/
def cf (e : Nat → En) (i r : Nat) : Value := if r = 0 then .string (e i).k else if r = 1 then sv (e i).v else if r = 2 then .int .i64 ((e i).o : Int) else .int .i64 ((e i).n : Int)
def ke (e : Nat → En) (n : Nat) : List Value := (List.range (n * 4)).map fun j => cf e (j / 4) (j % 4)
theorem ke_length (e : Nat → En) (n : Nat) : (ke e n).length = n * 4 := by simp [ke]
theorem ke_cell (e : Nat → En) {n i r : Nat} (h : i < n) (hr : r < 4) : (ke e n)[i * 4 + r]? = some (cf e i r) := by
  unfold ke
  rw [List.getElem?_map, List.getElem?_range (by omega)]
  show some (cf e ((i * 4 + r) / 4) ((i * 4 + r) % 4)) = _
  rw [show (i * 4 + r) / 4 = i by omega, show (i * 4 + r) % 4 = r by omega]
theorem ke_get (e : Nat → En) {n i : Nat} (h : i < n) : (ke e n)[i * 4]? = some (.string (e i).k) ∧ (ke e n)[i * 4 + 1]? = some (sv (e i).v) ∧ (ke e n)[i * 4 + 2]? = some (.int .i64 ((e i).o : Int)) ∧ (ke e n)[i * 4 + 3]? = some (.int .i64 ((e i).n : Int)) :=
  ⟨ke_cell e h (r := 0) (by omega), ke_cell e h (r := 1) (by omega), ke_cell e h (r := 2) (by omega), ke_cell e h (r := 3) (by omega)⟩
theorem ke_one (e : Nat → En) (n : Nat) : ∀ u ∈ ke e n, u.oneCell' = true := by
  intro u hu
  simp only [ke, List.mem_map] at hu
  obtain ⟨j, _, rfl⟩ := hu
  unfold cf
  split
  · rfl
  · split
    · rfl
    · split <;> rfl
theorem ke_congr {e e' : Nat → En} {n : Nat} (h : ∀ i, i < n → e i = e' i) : ke e n = ke e' n := by
  unfold ke
  refine List.map_congr_left (fun j hj => ?_)
  have := List.mem_range.1 hj
  unfold cf
  rw [h (j / 4) (by omega)]
theorem ke_set {e e' : Nat → En} {n i r : Nat} {v : Value} (hr : r < 4) (h : ∀ a b, b < 4 → cf e' a b = if a = i ∧ b = r then v else cf e a b) : (ke e n).set (i * 4 + r) v = ke e' n := by
  apply List.ext_getElem?
  intro j
  rw [List.getElem?_set, ke_length]
  by_cases hj : j < n * 4
  · obtain ⟨q, s, hs, rfl⟩ : ∃ q s, s < 4 ∧ j = q * 4 + s := ⟨j / 4, j % 4, by omega, by omega⟩
    rw [ke_cell e (by omega) hs, ke_cell e' (by omega) hs, h q s hs]
    by_cases hq : q = i ∧ s = r
    · obtain ⟨rfl, rfl⟩ := hq
      rw [if_pos rfl, if_pos (by omega), if_pos ⟨rfl, rfl⟩]
    · rw [if_neg (by omega), if_neg hq]
  · have h1 : (ke e n)[j]? = none := List.getElem?_eq_none (by rw [ke_length]; omega)
    have h2 : (ke e' n)[j]? = none := List.getElem?_eq_none (by rw [ke_length]; omega)
    rw [h1, h2]
    split
    · rw [if_neg (by omega)]
    · rfl
theorem ke_set0 (e : Nat → En) (n i : Nat) (k : ByteArray) : (ke e n).set (i * 4) (.string k) = ke (sK e i k) n :=
  ke_set (r := 0) (by omega) (fun a b hb => by
    unfold cf sK up
    by_cases h1 : a = i
    · subst h1
      by_cases h2 : b = 0
      · simp [h2]
      · simp [h2]
    · simp [h1])
theorem ke_set1 (e : Nat → En) (n i : Nat) (v : Sv) (x : Pr.Row) : (ke e n).set (i * 4 + 1) (sv v) = ke (sV e i v x) n :=
  ke_set (r := 1) (by omega) (fun a b hb => by
    unfold cf sV up
    by_cases h1 : a = i
    · subst h1
      by_cases h2 : b = 1
      · simp [h2]
      · simp [h2]
    · simp [h1])
theorem ke_set2 (e : Nat → En) (n i o : Nat) : (ke e n).set (i * 4 + 2) (.int .i64 (o : Int)) = ke (sO e i o) n :=
  ke_set (r := 2) (by omega) (fun a b hb => by
    unfold cf sO up
    by_cases h1 : a = i
    · subst h1
      by_cases h2 : b = 2
      · simp [h2]
      · simp [h2]
    · simp [h1])
theorem ke_set3 (e : Nat → En) (n i o : Nat) : (ke e n).set (i * 4 + 3) (.int .i64 (o : Int)) = ke (sN e i o) n :=
  ke_set (r := 3) (by omega) (fun a b hb => by
    unfold cf sN up
    by_cases h1 : a = i
    · subst h1
      by_cases h2 : b = 3
      · simp [h2]
      · obtain h | h | h : b = 0 ∨ b = 1 ∨ b = 2 := by omega
        all_goals simp [h]
    · simp [h1])
theorem ke_snoc (e : Nat → En) (n : Nat) (q : En) : ke e n ++ [.string q.k, sv q.v, .int .i64 (q.o : Int), .int .i64 (q.n : Int)] = ke (fun j => if j < n then e j else q) (n + 1) := by
  apply List.ext_getElem?
  intro j
  by_cases hj : j < n * 4
  · rw [List.getElem?_append_left (by rw [ke_length]; exact hj)]
    obtain ⟨a, s, hs, rfl⟩ : ∃ q s, s < 4 ∧ j = q * 4 + s := ⟨j / 4, j % 4, by omega, by omega⟩
    rw [ke_cell e (by omega) hs, ke_cell _ (by omega) hs]
    unfold cf
    simp only [show a < n by omega, if_true]
  · rw [List.getElem?_append_right (by rw [ke_length]; omega), ke_length]
    by_cases h2 : j < n * 4 + 4
    · obtain ⟨s, hs, rfl⟩ : ∃ s, s < 4 ∧ j = n * 4 + s := ⟨j - n * 4, by omega, by omega⟩
      rw [ke_cell _ (by omega) hs, show n * 4 + s - n * 4 = s by omega]
      unfold cf
      simp only [Nat.lt_irrefl, if_false]
      obtain rfl | rfl | rfl | rfl : s = 0 ∨ s = 1 ∨ s = 2 ∨ s = 3 := by omega
      all_goals rfl
    · rw [List.getElem?_eq_none (by simp; omega), List.getElem?_eq_none (by rw [ke_length]; omega)]
end Go.Proofs.Ytbcanfelfdalbaa
