/-
  Strings told by a function (f i: the byte at place i). No program is named here.
-/
import Derived.Test.YtfgbpjajkmfkoaaSl
namespace Go.Proofs.Ytfgbpjajkmfkoaa
open Go.RowKit

/-- A string of n bytes that f tells. -/
structure St (s : ByteArray) (n : Nat) (f : Nat → Int) : Prop where
  size : s.size = n
  get : ∀ i (h : i < s.size), ((s[i]'h).toNat : Int) = f i
  bd : ∀ i, 0 ≤ f i ∧ f i ≤ 255

def str (f : Nat → Int) (n : Nat) : ByteArray := strOfNums ((List.range n).map f)
theorem str_size (f : Nat → Int) (n : Nat) : (str f n).size = n := by simp [str, strOfNums_size]
theorem St.of {f : Nat → Int} (hf : ∀ i, 0 ≤ f i ∧ f i ≤ 255) (n : Nat) : St (str f n) n f := by
  refine ⟨str_size f n, fun i h => ?_, hf⟩
  rw [str_size] at h
  show (((strOfNums ((List.range n).map f)).data[i]'(by simpa [strOfNums] using h)).toNat : Int) = f i
  have := hf i
  simp [strOfNums]
  omega
theorem St.inj {s t : ByteArray} {n : Nat} {f : Nat → Int} (hs : St s n f) (ht : St t n f) : s = t := by
  have e1 := hs.size
  have e2 := ht.size
  apply ByteArray.ext
  apply Array.ext
  · show s.size = t.size
    omega
  · intro i h1 h2
    have a := hs.get i h1
    have b := ht.get i h2
    have c : (s[i]'h1).toNat = (t[i]'h2).toNat := by omega
    exact UInt8.toNat_inj.1 c
theorem St.eq_str {s : ByteArray} {n : Nat} {f : Nat → Int} (hs : St s n f) : s = str f n := hs.inj (St.of hs.bd n)
theorem St.congr {s : ByteArray} {n : Nat} {f g : Nat → Int} (hs : St s n f) (hg : ∀ i, 0 ≤ g i ∧ g i ≤ 255) (h : ∀ i, i < n → f i = g i) : St s n g :=
  ⟨hs.size, fun i hi => by rw [hs.get i hi]; exact h i (by rw [← hs.size]; exact hi), hg⟩
theorem str_congr {f g : Nat → Int} {n : Nat} (h : ∀ i, i < n → f i = g i) : str f n = str g n := by
  unfold str
  rw [List.map_congr_left (g := g) (fun i hi => h i (by simpa using hi))]
/-- Two strings that are one have the same bytes. -/
theorem St.same {s : ByteArray} {n m : Nat} {f g : Nat → Int} (hs : St s n f) (ht : St s m g) : n = m ∧ ∀ i, i < n → f i = g i :=
  ⟨by rw [← hs.size, ← ht.size], fun i hi => by
    have h : i < s.size := by rw [hs.size]; exact hi
    rw [← hs.get i h, ← ht.get i h]⟩
theorem St.extract {s : ByteArray} {n : Nat} {f : Nat → Int} (hs : St s n f) (i j : Nat) (hij : i ≤ j) (hj : j ≤ n) : St (s.extract i j) (j - i) (fun k => f (i + k)) := by
  have e := hs.size
  have hz : (s.extract i j).size = j - i := by rw [ByteArray.size_extract]; omega
  refine ⟨hz, fun k hk => ?_, fun k => hs.bd _⟩
  have := hs.get (i + k) (by omega)
  rw [← this, ByteArray.getElem_extract]
theorem St.append {s t : ByteArray} {n m : Nat} {f g : Nat → Int} (hs : St s n f) (ht : St t m g) : St (s ++ t) (n + m) (cat f n g) := by
  have e1 := hs.size
  have e2 := ht.size
  refine ⟨by rw [ByteArray.size_append]; omega, fun i h => ?_, cat_bd hs.bd ht.bd⟩
  by_cases hi : i < n
  · rw [cat_lt hi, ByteArray.getElem_append_left (by omega)]
    exact hs.get i (by omega)
  · rw [cat_ge (by omega), ByteArray.getElem_append_right (by omega)]
    rw [ByteArray.size_append] at h
    have := ht.get (i - n) (by omega)
    rw [← this]
    simp only [e1]

theorem toList_inj {a b : ByteArray} (h : a.toList = b.toList) : a = b := by
  rw [ByteArray.toList_eq, ByteArray.toList_eq] at h
  exact ByteArray.ext (Array.ext' h)
theorem St.beq_iff {a b : ByteArray} {n m : Nat} {f g : Nat → Int} (ha : St a n f) (hb : St b m g) : (a.toList == b.toList) = true ↔ n = m ∧ ∀ i, i < n → f i = g i := by
  rw [beq_iff_eq]
  constructor
  · intro h
    have e := toList_inj h
    subst e
    exact ha.same hb
  · rintro ⟨rfl, h⟩
    rw [(ha.congr hb.bd h).inj hb]
theorem St.beq_no {a b : ByteArray} {n m : Nat} {f g : Nat → Int} (ha : St a n f) (hb : St b m g) (h : ¬ (n = m ∧ ∀ i, i < n → f i = g i)) : (a.toList == b.toList) = false := by
  rw [← ha.beq_iff hb] at h
  simpa using h
/-- A slice of bytes as a string. -/
theorem run_convert_sl {P : Program} (w : World) (src e dst : TypeId) (hs : P.underlying src = some (.slice e)) (he : P.underlying e = some (.int .u8)) (hd : P.underlying dst = some .string) {a : Option Addr} {n cap : Nat} {f : Nat → Int} (h : Sl w a n cap f) :
    (convert src dst (.slice a n cap)).run P w = .ok (.string (str f n)) w := by
  by_cases hn : n = 0
  · subst hn
    cases a with
    | none => exact run_convert_bytes_nil w src e hs he 0 cap dst hd
    | some x =>
      rw [run_convert_bytes_string w src dst e _ 0 cap hs he hd, run_bytesToString w x 0 cap [] (by simpa using run_loadCells_list (P := P) w x [] (fun j v hj => by simp at hj))]
      rfl
  · obtain ⟨b, off, rfl, _, hc⟩ := h.at' (by omega)
    refine run_convert_bytes_arg w src e hs he b off n cap ((List.range n).map f) (by simp) (fun i hi => ?_) dst hd
    rw [hc i hi]
    simp [hi]
theorem range_getD (l : List Int) : (List.range l.length).map (fun i => l.getD i 0) = l := by
  apply List.ext_getElem
  · simp
  · intro i h1 h2
    simp [h2]
theorem str_list (l : List Int) (f : Nat → Int) (n : Nat) (hn : l.length = n) (hf : ∀ i, i < n → f i = l.getD i 0) : str f n = strOfNums l := by
  subst hn
  rw [str_congr hf]
  unfold str
  rw [range_getD]
/-- Bytes that were just laid, as a string. -/
theorem run_convert_new {P : Program} (w : World) (src e dst : TypeId) (hs : P.underlying src = some (.slice e)) (he : P.underlying e = some (.int .u8)) (hd : P.underlying dst = some .string) (l : List Int) (n : Nat) (hn : l.length = n) (t : TypeId) :
    (convert src dst (.slice (some ⟨w.heap.size, 0, none⟩) n n)).run P (w.alloc (.cells (l.map (Value.int .u8)).toArray t)) = .ok (.string (strOfNums l)) (w.alloc (.cells (l.map (Value.int .u8)).toArray t)) := by
  refine run_convert_bytes_arg _ src e hs he _ 0 n n l hn (fun i hi => ?_) dst hd
  rw [World.cell?_alloc_new]
  have h : i < l.length := by omega
  simp [h]
end Go.Proofs.Ytfgbpjajkmfkoaa
