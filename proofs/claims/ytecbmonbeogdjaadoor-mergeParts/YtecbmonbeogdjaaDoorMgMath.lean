/-
  Files of tokens and merges: what a line tells, and what a file does, line by line. Plain mathematics.
-/
import Derived.Test.YtecbmonbeogdjaaDoorLotB
import Derived.Test.YtecbmonbeogdjaaDoorLotE
import Derived.Test.YtecbmonbeogdjaaDoorMg
namespace Go.Proofs.YtecbmonbeogdjaaDoor.Mg

/-- A word is the writing of these bytes. -/
def RdIs (s t : ByteArray) : Prop := ∃ g k, Le.WR (bytesF s) s.size g k ∧ t = str g k
theorem RdIs.one {s t t' : ByteArray} (h : RdIs s t) (h' : RdIs s t') : t = t' := by
  obtain ⟨g, k, h1, rfl⟩ := h
  obtain ⟨g', k', h2, rfl⟩ := h'
  obtain ⟨rfl, h3⟩ := h1.same h2
  exact str_congr (fun i hi => (h3 i hi).symm)
theorem bad_no {s : ByteArray} {p : Nat} (h : Le.Bad (bytesF s) s.size p) (t : ByteArray) : ¬ RdIs s t := by
  rintro ⟨g, k, h1, _⟩
  exact Le.bad_not h1 h
theorem RdIs.le {s t : ByteArray} (h : RdIs s t) : t.size ≤ s.size := by
  obtain ⟨g, k, h1, rfl⟩ := h
  rw [str_size, ← h1.size]
  exact (Le.wrN_bd h1.bd k).1
theorem RdIs.pos {s t : ByteArray} (h : RdIs s t) (hs : 0 < s.size) : 0 < t.size := by
  obtain ⟨g, k, h1, rfl⟩ := h
  rw [str_size]
  have := (Le.wrN_bd h1.bd k).2
  rw [h1.size] at this
  omega

def num (s : ByteArray) : Int := Ln.vF (bytesF s) s.size
def Num (s : ByteArray) : Prop := Ln.Num (bytesF s) s.size
/-- A line is a row's. -/
def RowIs (s : ByteArray) (x : ByteArray × Int) : Prop := (wds s).length = 2 ∧ RdIs (Rk.w0 s) x.1 ∧ Num (Rk.w1 s) ∧ x.2 = num (Rk.w1 s)
/-- A line is a pair's. -/
def PairIs (s : ByteArray) (x : ByteArray × ByteArray) : Prop := (wds s).length = 2 ∧ RdIs (Rk.w0 s) x.1 ∧ RdIs (Rk.w1 s) x.2
theorem RowIs.one {s : ByteArray} {x y : ByteArray × Int} (h : RowIs s x) (k : RowIs s y) : x = y := Prod.ext (h.2.1.one k.2.1) (h.2.2.2.trans k.2.2.2.symm)
theorem PairIs.one {s : ByteArray} {x y : ByteArray × ByteArray} (h : PairIs s x) (k : PairIs s y) : x = y := Prod.ext (h.2.1.one k.2.1) (h.2.2.one k.2.2)

def sVocab : ByteArray := ⟨#[118, 111, 99, 97, 98]⟩
def sMerges : ByteArray := ⟨#[109, 101, 114, 103, 101, 115]⟩

abbrev Rows := List (ByteArray × Int)
abbrev Prs := List (ByteArray × ByteArray)
/-- What a line makes of a state (0: ahead of all; 1: among rows; 2: among pairs), of rows and of pairs. -/
def Stp (st : Nat) (rs : Rows) (ps : Prs) (s : ByteArray) (st' : Nat) (rs' : Rows) (ps' : Prs) : Prop :=
  (st = 0 ∧ s = sVocab ∧ st' = 1 ∧ rs' = rs ∧ ps' = ps) ∨
  (st = 1 ∧ s = sMerges ∧ st' = 2 ∧ rs' = rs ∧ ps' = ps) ∨
  (st = 1 ∧ s ≠ sMerges ∧ ∃ x, RowIs s x ∧ x.1.size ≤ 64 ∧ st' = 1 ∧ rs' = rs ++ [x] ∧ ps' = ps) ∨
  (st = 2 ∧ ∃ x, PairIs s x ∧ x.1.size ≤ 64 ∧ x.2.size ≤ 64 ∧ st' = 2 ∧ rs' = rs ∧ ps' = ps ++ [x])
/-- How a line is wrong in a state. -/
def Err (st : Nat) (s : ByteArray) (c : Int) : Prop :=
  (st = 0 ∧ s ≠ sVocab ∧ c = 2) ∨
  (st = 1 ∧ s ≠ sMerges ∧ (∀ x, ¬ RowIs s x) ∧ c = 2) ∨
  (st = 1 ∧ s ≠ sMerges ∧ (∃ x, RowIs s x ∧ 64 < x.1.size) ∧ c = 7) ∨
  (st = 2 ∧ (∀ x, ¬ PairIs s x) ∧ c = 2) ∨
  (st = 2 ∧ (∃ x, PairIs s x ∧ (64 < x.1.size ∨ 64 < x.2.size)) ∧ c = 7)
theorem Err.nz {st : Nat} {s : ByteArray} {c : Int} (h : Err st s c) : c ≠ 0 := by
  rcases h with ⟨_, _, h⟩ | ⟨_, _, _, h⟩ | ⟨_, _, _, h⟩ | ⟨_, _, h⟩ | ⟨_, _, h⟩ <;> omega
theorem Err.one {st : Nat} {s : ByteArray} {c d : Int} (h : Err st s c) (k : Err st s d) : c = d := by
  rcases h with ⟨h1, h2, h⟩ | ⟨h1, h2, h3, h⟩ | ⟨h1, h2, ⟨x, h3, _⟩, h⟩ | ⟨h1, h3, h⟩ | ⟨h1, ⟨x, h3, _⟩, h⟩ <;> rcases k with ⟨k1, k2, k⟩ | ⟨k1, k2, k3, k⟩ | ⟨k1, k2, ⟨y, k3, _⟩, k⟩ | ⟨k1, k3, k⟩ | ⟨k1, ⟨y, k3, _⟩, k⟩
  all_goals first | omega | exact absurd k3 (h3 _) | exact absurd h3 (k3 _)
theorem Stp.one {st : Nat} {rs : Rows} {ps : Prs} {s : ByteArray} {a b : Nat} {r1 r2 : Rows} {p1 p2 : Prs} (h : Stp st rs ps s a r1 p1) (k : Stp st rs ps s b r2 p2) : a = b ∧ r1 = r2 ∧ p1 = p2 := by
  rcases h with ⟨h1, h2, rfl, rfl, rfl⟩ | ⟨h1, h2, rfl, rfl, rfl⟩ | ⟨h1, h2, x, h3, h4, rfl, rfl, rfl⟩ | ⟨h1, x, h3, h4, h5, rfl, rfl, rfl⟩ <;> rcases k with ⟨k1, k2, rfl, rfl, rfl⟩ | ⟨k1, k2, rfl, rfl, rfl⟩ | ⟨k1, k2, y, k3, k4, rfl, rfl, rfl⟩ | ⟨k1, y, k3, k4, k5, rfl, rfl, rfl⟩
  all_goals first | (exfalso; omega) | exact ⟨rfl, rfl, rfl⟩ | exact absurd h2 k2 | exact absurd k2 h2 | (rw [h3.one k3]; exact ⟨rfl, rfl, rfl⟩)
theorem Stp.not_err {st : Nat} {rs : Rows} {ps : Prs} {s : ByteArray} {a : Nat} {r1 : Rows} {p1 : Prs} {c : Int} (h : Stp st rs ps s a r1 p1) (k : Err st s c) : False := by
  rcases h with ⟨h1, h2, rfl, rfl, rfl⟩ | ⟨h1, h2, rfl, rfl, rfl⟩ | ⟨h1, h2, x, h3, h4, rfl, rfl, rfl⟩ | ⟨h1, x, h3, h4, h5, rfl, rfl, rfl⟩ <;> rcases k with ⟨k1, k2, k⟩ | ⟨k1, k2, k3, k⟩ | ⟨k1, k2, ⟨y, k3, k4⟩, k⟩ | ⟨k1, k3, k⟩ | ⟨k1, ⟨y, k3, k4⟩, k⟩
  all_goals first | omega | exact absurd h2 k2 | exact absurd h3 (k3 _) | (have e := h3.one k3; subst e; omega)

/-- The state, rows and pairs behind the first j lines. -/
def Run (ls : List ByteArray) : Nat → Nat → Rows → Prs → Prop
  | 0, st, rs, ps => st = 0 ∧ rs = [] ∧ ps = []
  | j + 1, st, rs, ps => ∃ st0 rs0 ps0, Run ls j st0 rs0 ps0 ∧ Stp st0 rs0 ps0 (at_ ls j) st rs ps
theorem Run.zero (ls : List ByteArray) : Run ls 0 0 [] [] := ⟨rfl, rfl, rfl⟩
theorem Run.step {ls : List ByteArray} {j st st' : Nat} {rs rs' : Rows} {ps ps' : Prs} {s : ByteArray} (h : Run ls j st rs ps) (hs : at_ ls j = s) (k : Stp st rs ps s st' rs' ps') : Run ls (j + 1) st' rs' ps' := ⟨st, rs, ps, h, by rw [hs]; exact k⟩
theorem Run.one {ls : List ByteArray} : ∀ {j st st' : Nat} {rs rs' : Rows} {ps ps' : Prs}, Run ls j st rs ps → Run ls j st' rs' ps' → st = st' ∧ rs = rs' ∧ ps = ps'
  | 0, _, _, _, _, _, _, ⟨a, b, c⟩, ⟨d, e, f⟩ => ⟨by rw [a, d], by rw [b, e], by rw [c, f]⟩
  | j + 1, _, _, _, _, _, _, ⟨a, b, c, h, k⟩, ⟨d, e, f, h', k'⟩ => by
    obtain ⟨rfl, rfl, rfl⟩ := Run.one h h'
    exact k.one k'
theorem Run.pre {ls : List ByteArray} : ∀ {j st : Nat} {rs : Rows} {ps : Prs}, Run ls j st rs ps → ∀ i, i < j → ∃ st0 rs0 ps0 st1 rs1 ps1, Run ls i st0 rs0 ps0 ∧ Stp st0 rs0 ps0 (at_ ls i) st1 rs1 ps1
  | 0, _, _, _, _, i, hi => absurd hi (by omega)
  | j + 1, st, rs, ps, ⟨a, b, c, h, k⟩, i, hi => by
    by_cases e : i = j
    · subst e; exact ⟨a, b, c, st, rs, ps, h, k⟩
    · exact h.pre i (by omega)
theorem Run.len {ls : List ByteArray} : ∀ {j st : Nat} {rs : Rows} {ps : Prs}, Run ls j st rs ps → rs.length + ps.length ≤ j
  | 0, _, _, _, ⟨_, h, k⟩ => by rw [h, k]; exact Nat.le_refl _
  | j + 1, st, rs, ps, ⟨a, b, c, h, k⟩ => by
    have := h.len
    rcases k with ⟨_, _, rfl, rfl, rfl⟩ | ⟨_, _, rfl, rfl, rfl⟩ | ⟨_, _, x, _, _, rfl, rfl, rfl⟩ | ⟨_, x, _, _, _, rfl, rfl, rfl⟩ <;> simp <;> omega
theorem Run.state {ls : List ByteArray} : ∀ {j st : Nat} {rs : Rows} {ps : Prs}, Run ls j st rs ps → st ≤ 2
  | 0, _, _, _, ⟨h, _, _⟩ => by omega
  | j + 1, st, rs, ps, ⟨a, b, c, h, k⟩ => by
    rcases k with ⟨_, _, rfl, rfl, rfl⟩ | ⟨_, _, rfl, rfl, rfl⟩ | ⟨_, _, x, _, _, rfl, rfl, rfl⟩ | ⟨_, x, _, _, _, rfl, rfl, rfl⟩ <;> omega

/-- What a file of these lines is read as. -/
def FileIs (ls : List ByteArray) (rs : Rows) (ps : Prs) (line err : Int) : Prop :=
  (Run ls ls.length 2 rs ps ∧ line = 0 ∧ err = 0) ∨
  (rs = [] ∧ ps = [] ∧ ∃ st rs0 ps0, st ≠ 2 ∧ Run ls ls.length st rs0 ps0 ∧ line = (ls.length : Int) + 1 ∧ err = 2) ∨
  (rs = [] ∧ ps = [] ∧ ∃ j st rs0 ps0, j < ls.length ∧ Run ls j st rs0 ps0 ∧ Err st (at_ ls j) err ∧ line = (j : Int) + 1)
theorem FileIs.one {ls : List ByteArray} {r r' : Rows} {p p' : Prs} {l l' e e' : Int} (h : FileIs ls r p l e) (k : FileIs ls r' p' l' e') : r = r' ∧ p = p' ∧ l = l' ∧ e = e' := by
  have cut : ∀ {j st rs ps c i st0 rs0 ps0}, Run ls j st rs ps → Err st (at_ ls j) c → Run ls i st0 rs0 ps0 → j < i → False := by
    intro j st rs ps c i st0 rs0 ps0 h1 h2 h3 h4
    obtain ⟨a1, a2, a3, b1, b2, b3, g1, g2⟩ := h3.pre j h4
    obtain ⟨rfl, rfl, rfl⟩ := h1.one g1
    exact g2.not_err h2
  rcases h with ⟨h1, rfl, rfl⟩ | ⟨rfl, rfl, st, rs0, ps0, h1, h2, rfl, rfl⟩ | ⟨rfl, rfl, j, st, rs0, ps0, h1, h2, h3, rfl⟩ <;> rcases k with ⟨k1, rfl, rfl⟩ | ⟨rfl, rfl, st', rs0', ps0', k1, k2, rfl, rfl⟩ | ⟨rfl, rfl, j', st', rs0', ps0', k1, k2, k3, rfl⟩
  · obtain ⟨_, rfl, rfl⟩ := h1.one k1
    exact ⟨rfl, rfl, rfl, rfl⟩
  · exact absurd (h1.one k2).1.symm k1
  · exact (cut k2 k3 h1 k1).elim
  · exact absurd (k1.one h2).1.symm h1
  · exact ⟨rfl, rfl, rfl, rfl⟩
  · exact (cut k2 k3 h2 k1).elim
  · exact (cut h2 h3 k1 h1).elim
  · exact (cut h2 h3 k2 h1).elim
  · have hij : j = j' := by
      rcases Nat.lt_trichotomy j j' with h | h | h
      · exact (cut h2 h3 k2 h).elim
      · exact h
      · exact (cut k2 k3 h2 h).elim
    subst hij
    obtain ⟨rfl, rfl, rfl⟩ := h2.one k2
    exact ⟨rfl, rfl, rfl, h3.one k3⟩
theorem FileIs.len {ls : List ByteArray} {r : Rows} {p : Prs} {l e : Int} (h : FileIs ls r p l e) : r.length + p.length ≤ ls.length := by
  rcases h with ⟨h, _⟩ | ⟨rfl, rfl, _⟩ | ⟨rfl, rfl, _⟩
  · exact h.len
  · exact Nat.zero_le _
  · exact Nat.zero_le _
end Go.Proofs.YtecbmonbeogdjaaDoor.Mg
