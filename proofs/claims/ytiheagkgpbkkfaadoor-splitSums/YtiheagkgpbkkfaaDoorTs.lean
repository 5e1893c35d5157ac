/-
  Rows of texts: what lies in memory, told by lists of strings; and strings as lists of bytes. No program is named here.
-/
import Derived.Test.YtiheagkgpbkkfaaDoorLotG
namespace Go.Proofs.YtiheagkgpbkkfaaDoor
open Go.RowKit

/-- Texts as values. -/
def tv (xs : List ByteArray) : List Value := xs.map Value.string
theorem tv_length (xs : List ByteArray) : (tv xs).length = xs.length := by simp [tv]
theorem tv_append (xs ys : List ByteArray) : tv xs ++ tv ys = tv (xs ++ ys) := by simp [tv]
theorem tv_one (xs : List ByteArray) : ∀ u ∈ tv xs, u.oneCell' = true := by
  intro u hu
  simp only [tv, List.mem_map] at hu
  obtain ⟨i, _, rfl⟩ := hu
  rfl
/-- The text at a place. -/
def at_ (xs : List ByteArray) (i : Nat) : ByteArray := xs.getD i ⟨#[]⟩
theorem tv_get (xs : List ByteArray) (i : Nat) (h : i < xs.length) : (tv xs)[i]? = some (.string (at_ xs i)) := by simp [tv, at_, h]

/-- A slice of texts: nil, or it leads to cells that hold them. -/
structure Ts (w : World) (a : Option Addr) (n cap : Nat) (xs : List ByteArray) : Prop where
  len : xs.length = n
  le : n ≤ cap
  mx : cap ≤ maxLen
  nil : a = none → n = 0 ∧ cap = 0
  at' : 0 < n → ∃ b off, a = some ⟨b, off, none⟩ ∧ b < w.heap.size ∧ ∀ i, i < n → w.cell? ⟨b, off + i, none⟩ = some (.string (at_ xs i))
theorem Ts.below {w w' : World} {a : Option Addr} {n cap : Nat} {xs : List ByteArray} (h : Ts w a n cap xs) (hb : Below w.heap.size w w') : Ts w' a n cap xs :=
  ⟨h.len, h.le, h.mx, h.nil, fun hn => by
    obtain ⟨b, off, rfl, hlt, hc⟩ := h.at' hn
    exact ⟨b, off, rfl, Nat.lt_of_lt_of_le hlt hb.size, fun i hi => by rw [hb.cell (p := ⟨b, off + i, none⟩) hlt]; exact hc i hi⟩⟩
/-- A row of the call's own as a slice of texts. -/
theorem Ts.ofOwn {w : World} {base : Nat} {e : TypeId} {v : Value} {n : Nat} {xs : List ByteArray} (h : w.ownsRow base e 1 v n (tv xs)) : ∃ a cap, v = .slice a n cap ∧ Ts w a n cap xs := by
  obtain ⟨hl, h⟩ := h
  rw [tv_length, Nat.mul_one] at hl
  rcases h with ⟨rfl, rfl⟩ | ⟨g, cap, cur, rfl, hb, hg, hn, hm, hs, ht⟩
  · exact ⟨none, 0, rfl, hl, by omega, Nat.zero_le _, fun _ => ⟨rfl, rfl⟩, fun h => absurd h (by omega)⟩
  · refine ⟨_, cap, rfl, hl, hn, hm, fun h => absurd h (by simp), fun h0 => ⟨g, 0, rfl, (Array.getElem?_eq_some_iff.1 hg).1, fun i hi => ?_⟩⟩
    have e1 : (cur.toList.take (n * 1))[i]? = some (.string (at_ xs i)) := by rw [ht]; exact tv_get xs i (by omega)
    rw [List.getElem?_take_of_lt (by omega)] at e1
    have e2 : cur[i]? = some (.string (at_ xs i)) := by simpa using e1
    simp [World.cell?, hg, e2]
theorem Ts.ofOwn' {w : World} {base : Nat} {e : TypeId} {a : Option Addr} {n cap : Nat} {xs : List ByteArray} (h : w.ownsRow base e 1 (.slice a n cap) n (tv xs)) : Ts w a n cap xs := by
  obtain ⟨a2, c2, e2, h2⟩ := Ts.ofOwn h
  cases e2
  exact h2
/-- A slice of texts as what is appended. -/
theorem Ts.src {w : World} {a : Option Addr} {n cap : Nat} {xs : List ByteArray} (h : Ts w a n cap xs) : Src w a n cap 1 (tv xs) :=
  ⟨by rw [tv_length, h.len, Nat.mul_one], tv_one xs, h.nil, fun ad ha j u hu => by
    have hj : j < n := by
      have := (List.getElem?_eq_some_iff.1 hu).1
      rwa [tv_length, h.len] at this
    rw [tv_get xs j (by rw [h.len]; exact hj)] at hu
    cases hu
    obtain ⟨b, off, hab, _, hc⟩ := h.at' (by omega)
    rw [ha] at hab
    cases hab
    rw [Addr.add_lit]
    exact hc j hj⟩
theorem at_ext {xs ys : List ByteArray} (hl : xs.length = ys.length) (h : ∀ i, i < xs.length → at_ xs i = at_ ys i) : xs = ys := by
  apply List.ext_getElem hl
  intro i h1 h2
  have := h i h1
  simpa [at_, h1, h2] using this

/-! ### Strings as lists of bytes -/
def mk (l : List UInt8) : ByteArray := ⟨l.toArray⟩
def by_ (s : ByteArray) : List UInt8 := s.data.toList
theorem mk_by (s : ByteArray) : mk (by_ s) = s := by simp [mk, by_]
theorem by_mk (l : List UInt8) : by_ (mk l) = l := by simp [mk, by_]
theorem mk_inj {a b : List UInt8} (h : mk a = mk b) : a = b := by rw [← by_mk a, ← by_mk b, h]
theorem by_inj {a b : ByteArray} (h : by_ a = by_ b) : a = b := by rw [← mk_by a, ← mk_by b, h]
theorem by_length (s : ByteArray) : (by_ s).length = s.size := Array.length_toList
theorem mk_size (l : List UInt8) : (mk l).size = l.length := List.size_toArray
theorem by_toList (s : ByteArray) : s.toList = by_ s := by rw [ByteArray.toList_eq]; rfl
theorem by_append (s t : ByteArray) : by_ (s ++ t) = by_ s ++ by_ t := by simp [by_]
theorem mk_append (a b : List UInt8) : mk a ++ mk b = mk (a ++ b) := by apply by_inj; rw [by_append, by_mk, by_mk, by_mk]
theorem mk_map_inj {a b : List (List UInt8)} (h : a.map mk = b.map mk) : a = b := by
  have := congrArg (List.map by_) h
  simpa [List.map_map, Function.comp_def, by_mk] using this
theorem by_extract (s : ByteArray) (i j : Nat) : by_ (s.extract i j) = ((by_ s).take j).drop i := by
  simp [by_, ByteArray.data_extract, List.drop_take]
theorem by_get {s : ByteArray} {i : Nat} (h : i < s.size) : ∃ x : UInt8, (by_ s).drop i = x :: (by_ s).drop (i + 1) ∧ (x.toNat : Int) = bytesF s i ∧ (by_ s)[i]? = some x := by
  have hl : i < (by_ s).length := by rw [by_length]; exact h
  refine ⟨(by_ s)[i], List.drop_eq_getElem_cons hl, ?_, List.getElem?_eq_getElem hl⟩
  have hg := (St.any s).get i h
  rw [← hg]
  rfl
end Go.Proofs.YtiheagkgpbkkfaaDoor
