/-
  Files of rows: what is written is read as it was. Plain mathematics.
-/
import Derived.Test.YthemaacfjmcbnaaDoorRkMath
import Derived.Test.YthemaacfjmcbnaaDoorRkE0
import Derived.Lib.AppendStr
namespace Go.Proofs.YthemaacfjmcbnaaDoor.Rk
open Go.Lib (decDigits itoa)

theorem bytes_mk (l : List UInt8) : bytesF (mk l) = Ln.gF l := by
  funext i
  unfold bytesF Ln.gF mk
  simp [Array.getD_eq_getD_getElem?]
theorem bytes_st {s : ByteArray} {n : Nat} {f : Nat → Int} (h : St s n f) : ∀ i, i < n → bytesF s i = f i := fun i hi => by
  have := (St.any s).same h
  exact this.2 i (by omega)
/-- The base64 of a token. -/
def encS (t : ByteArray) : ByteArray := str (B6.encF (bytesF t) t.size) (B6.encN t.size)
theorem encS_st (t : ByteArray) : St (encS t) (B6.encN t.size) (B6.encF (bytesF t) t.size) := St.of (fun i => B6.encF_bd (St.any t).bd _ i) _
def lnL (t : ByteArray) (k : Int) : List UInt8 := by_ (encS t) ++ 32 :: itoa k
def lnS (t : ByteArray) (k : Int) : ByteArray := mk (lnL t k ++ [10])
def fileL (xs : List (ByteArray × Int)) : List UInt8 := xs.flatMap fun x => lnL x.1 x.2 ++ [10]
def All (xs : List (ByteArray × Int)) : Prop := ∀ x ∈ xs, May x.1 x.2

/-! ### Congruence of base64's words -/
theorem z_congr {f g : Nat → Int} {n : Nat} (h : ∀ i, i < n → f i = g i) : B6.z f n = B6.z g n := by
  funext i
  unfold B6.z
  split
  · exact h i (by assumption)
  · rfl
theorem good_congr {f g : Nat → Int} {n : Nat} (h : ∀ i, i < n → f i = g i) (hg : B6.Good g n) : B6.Good f n := by
  unfold B6.Good B6.grp B6.cnt at hg ⊢
  rw [z_congr h]
  exact hg
theorem decN_congr {f g : Nat → Int} {n : Nat} (h : ∀ i, i < n → f i = g i) : B6.decN f n = B6.decN g n := by
  unfold B6.decN B6.cnt
  rw [z_congr h]
theorem decF_congr {f g : Nat → Int} {n : Nat} (h : ∀ i, i < B6.encN n → f i = g i) {i : Nat} (hi : i < n) : B6.decF f i = B6.decF g i := by
  have he : B6.encN n = (n + 2) / 3 * 4 := rfl
  have h1 := h (i + i / 3) (by omega)
  unfold B6.decF
  rw [h1]
  split
  · rw [h _ (by omega)]
  · split
    · rw [h _ (by omega)]
    · rw [h _ (by omega)]

/-! ### Signs -/
theorem one_range (k n : Nat) {a b c : Int} (ha : 0 ≤ a ∧ a ≤ 255) (hb : 0 ≤ b ∧ b ≤ 255) (hc : 0 ≤ c ∧ c ≤ 255) : 43 ≤ B6.one k n a b c := by
  unfold B6.one
  split
  · exact (B6.sgn_bd _ (B6.six_bd k ha hb hc).1).1
  · omega
theorem enc_range (t : ByteArray) (i : Nat) : 43 ≤ B6.encF (bytesF t) t.size i :=
  one_range _ _ (B6.z_bd (St.any t).bd _) (B6.z_bd (St.any t).bd _) (B6.z_bd (St.any t).bd _)
theorem mem_at {l : List UInt8} {b : UInt8} (h : b ∈ l) : ∃ i, i < l.length ∧ Ln.gF l i = b.toNat := by
  obtain ⟨i, hi, e⟩ := List.mem_iff_getElem.1 h
  exact ⟨i, hi, by unfold Ln.gF; rw [List.getD_eq_getElem?_getD, List.getElem?_eq_getElem hi, e]; rfl⟩
theorem enc_mem {t : ByteArray} {b : UInt8} (h : b ∈ by_ (encS t)) : 43 ≤ b.toNat := by
  obtain ⟨i, hi, e⟩ := mem_at h
  rw [← bytes_mk, mk_by, bytes_st (encS_st t) i (by rw [by_length, (encS_st t).size] at hi; exact hi)] at e
  have := enc_range t i
  omega
theorem itoa_mem {k : Int} (h0 : 0 ≤ k) (h1 : k ≤ 9999999) {b : UInt8} (h : b ∈ itoa k) : 48 ≤ b.toNat := by
  obtain ⟨i, hi, e⟩ := mem_at h
  have := ((Ln.num_itoa h0 h1).1.2.2.2 i hi).1
  omega
theorem ne_of {b : UInt8} {c : UInt8} (h : c.toNat < b.toNat) : b ≠ c := by rintro rfl; omega
theorem pcs_none {c : UInt8} : ∀ {l acc : List UInt8}, (∀ b ∈ l, b ≠ c) → Ln.pcs c acc l = [acc ++ l]
  | [], acc, _ => by simp [Ln.pcs]
  | b :: r, acc, h => by
    rw [Ln.pcs_miss (h b (by simp)), pcs_none (fun x hx => h x (by simp [hx]))]
    simp

/-- A row whose line has the right form. -/
def Fine (t : ByteArray) (k : Int) : Prop := 1 ≤ t.size ∧ 0 ≤ k ∧ k ≤ 9999999
theorem May.fine {t : ByteArray} {k : Int} (h : May t k) : Fine t k := ⟨h.1, h.2.2.1, h.2.2.2⟩
section
variable {t : ByteArray} {k : Int}
theorem enc_ne (h : Fine t k) : by_ (encS t) ≠ [] := fun e => by
  have h1 := by_length (encS t)
  rw [e, (encS_st t).size] at h1
  have := h.1
  have he : B6.encN t.size = (t.size + 2) / 3 * 4 := rfl
  simp at h1
  omega
theorem itoa_ne (h : Fine t k) : itoa k ≠ [] := fun e => by
  have := (Ln.num_itoa h.2.1 h.2.2).1.1
  rw [e] at this
  simp at this
theorem ln_no (h : Fine t k) : ∀ b ∈ lnL t k, b ≠ 10 := fun b hb => by
  unfold lnL at hb
  rcases List.mem_append.1 hb with hb | hb
  · exact ne_of (by have := enc_mem hb; show 10 < b.toNat; omega)
  · rcases List.mem_cons.1 hb with rfl | hb
    · decide
    · exact ne_of (by have := itoa_mem h.2.1 h.2.2 hb; show 10 < b.toNat; omega)
theorem ln_words (h : Fine t k) : wds (mk (lnL t k)) = [encS t, mk (itoa k)] := by
  have h1 : Ln.pcs 32 [] (lnL t k) = [by_ (encS t), itoa k] := by
    unfold lnL
    rw [Ln.pcs_app, pcs_none (fun b hb => ne_of (by have := enc_mem hb; show 32 < b.toNat; omega)), pcs_none (fun b hb => ne_of (by have := itoa_mem h.2.1 h.2.2 hb; show 32 < b.toNat; omega))]
    rfl
  unfold wds
  rw [by_mk, Ln.words_good (fun x hx => by
    rw [h1] at hx
    simp at hx
    rcases hx with rfl | rfl
    · exact enc_ne h
    · exact itoa_ne h), h1]
  simp [mk_by]
theorem row_form (h : Fine t k) : Form (mk (lnL t k)) ∧ row (mk (lnL t k)) = (t, k) := by
  have e0 : w0 (mk (lnL t k)) = encS t := by unfold w0; rw [ln_words h]; rfl
  have e1 : w1 (mk (lnL t k)) = mk (itoa k) := by unfold w1; rw [ln_words h]; rfl
  have hst := encS_st t
  have hc := bytes_st hst
  have hg := B6.enc_good (St.any t).bd t.size
  have hn := Ln.num_itoa h.2.1 h.2.2
  have hN : B6.decN (bytesF (encS t)) (B6.encN t.size) = t.size := by rw [decN_congr hc]; exact hg.2
  have et : tok (mk (lnL t k)) = t := by
    unfold tok
    rw [e0, hst.size, hN]
    refine Eq.trans (str_congr (g := bytesF t) fun i hi => ?_) (St.any t).eq_str.symm
    rw [decF_congr hc hi]
    exact B6.dec_enc (St.any t).bd _ i hi
  have en : num (mk (lnL t k)) = k := by
    unfold num
    rw [e1, bytes_mk, mk_size]
    exact hn.2
  refine ⟨⟨by rw [ln_words h]; rfl, ?_, ?_⟩, by unfold row; rw [et, en]⟩
  · rw [e0, hst.size]
    exact good_congr hc hg.1
  · rw [e1, bytes_mk, mk_size]
    exact hn.1
theorem row_tok (h : Fine t k) : tok (mk (lnL t k)) = t := congrArg Prod.fst (row_form h).2
theorem row_back (h : May t k) : Er (mk (lnL t k)) 0 ∧ row (mk (lnL t k)) = (t, k) :=
  ⟨.inr (.inr ⟨(row_form h.fine).1, by rw [row_tok h.fine]; exact h.2.1, rfl⟩), (row_form h.fine).2⟩
theorem row_long (h : Fine t k) (hl : 64 < t.size) : Er (mk (lnL t k)) 7 :=
  .inr (.inl ⟨(row_form h).1, by rw [row_tok h]; exact hl, rfl⟩)
end

/-! ### Files -/
theorem fileL_cons (x : ByteArray × Int) (xs : List (ByteArray × Int)) : fileL (x :: xs) = lnL x.1 x.2 ++ 10 :: fileL xs := by simp [fileL]
theorem fileL_snoc (xs : List (ByteArray × Int)) (t : ByteArray) (k : Int) : fileL (xs ++ [(t, k)]) = fileL xs ++ (lnL t k ++ [10]) := by simp [fileL]
theorem lines_file : ∀ {xs : List (ByteArray × Int)} (r : List UInt8), All xs → Ln.lines (fileL xs ++ r) = xs.map (fun x => lnL x.1 x.2) ++ Ln.lines r
  | [], r, _ => rfl
  | x :: xs, r, h => by
    have hx := h x (by simp)
    rw [fileL_cons, List.append_assoc, List.cons_append, Ln.lines_join, ← Ln.lines_all, pcs_none (ln_no hx.fine), lines_file r (fun y hy => h y (by simp [hy]))]
    simp
theorem lines_wrong {l r : List UInt8} (h : ∀ b ∈ l, b ≠ 10) : Ln.lines (l ++ 10 :: r) = l :: Ln.lines r := by
  rw [Ln.lines_join, ← Ln.lines_all, pcs_none h]
  rfl
theorem lines_one {l : List UInt8} (h : ∀ b ∈ l, b ≠ 10) (h0 : l ≠ []) : Ln.lines l = [l] := by
  have h1 := Ln.lines_all l
  rw [pcs_none h, Ln.gap, if_neg, List.append_nil] at h1
  · rw [← h1]; rfl
  · rintro (e | e)
    · exact h0 e
    · exact h 10 (List.mem_of_getLast? e) rfl
/-- Lines at the front that are rows' own. -/
theorem er_front {xs : List (ByteArray × Int)} (h : All xs) (r : List ByteArray) : ∀ i, i < xs.length → Er (at_ (xs.map (fun x => mk (lnL x.1 x.2)) ++ r) i) 0 := fun i hi => by
  have e : at_ (xs.map (fun x => mk (lnL x.1 x.2)) ++ r) i = mk (lnL xs[i].1 xs[i].2) := by
    unfold at_
    rw [List.getD_eq_getElem?_getD, List.getElem?_append_left (by simpa using hi), List.getElem?_map, List.getElem?_eq_getElem hi]
    rfl
  rw [e]
  exact (row_back (h _ (List.getElem_mem hi))).1
theorem lns_file {xs : List (ByteArray × Int)} (h : All xs) (r : List UInt8) : lns (mk (fileL xs ++ r)) = xs.map (fun x => mk (lnL x.1 x.2)) ++ (Ln.lines r).map mk := by
  unfold lns
  rw [by_mk, lines_file r h, List.map_append, List.map_map]
  rfl
/-- What is written is read as it was. -/
theorem file_back {xs : List (ByteArray × Int)} (h : All xs) : FileIs (lns (mk (fileL xs))) xs 0 0 := by
  have e := lns_file h []
  rw [List.append_nil, show Ln.lines [] = [] from rfl, List.map_nil] at e
  refine .inl ⟨fun i hi => ?_, ?_, rfl, rfl⟩
  · rw [e] at hi ⊢
    exact er_front h [] i (by simpa using hi)
  · rw [e, List.append_nil, List.map_map]
    symm
    exact (List.map_congr_left (g := id) fun x hx => (row_back (h x hx)).2).trans (List.map_id xs)
/-- Behind rows a line of a wrong form is the fault. -/
theorem file_wrong {xs : List (ByteArray × Int)} (h : All xs) {s : ByteArray} (hs : ∀ b ∈ by_ s, b ≠ 10) (he : Er s 2) (r : List UInt8) : FileIs (lns (mk (fileL xs ++ (by_ s ++ 10 :: r)))) [] ((xs.length : Int) + 1) 2 := by
  have e := lns_file h (by_ s ++ 10 :: r)
  rw [lines_wrong hs, List.map_cons, mk_by] at e
  refine .inr ⟨xs.length, ?_, fun j hj => ?_, ?_, by omega, rfl, rfl⟩
  · rw [e]; simp
  · rw [e]; exact er_front h _ j hj
  · rw [e]
    have : at_ (xs.map (fun x => mk (lnL x.1 x.2)) ++ s :: (Ln.lines r).map mk) xs.length = s := by
      unfold at_
      rw [List.getD_eq_getElem?_getD, List.getElem?_append_right (by simp)]
      simp
    rw [this]; exact he
/-! ### How long files are -/
theorem ln_len {t : ByteArray} {k : Int} (h : May t k) : (lnL t k).length ≤ 96 := by
  unfold lnL
  have h1 := by_length (encS t)
  rw [(encS_st t).size] at h1
  have h2 := (Ln.num_itoa h.2.2.1 h.2.2.2).1.2.1
  have h3 := h.2.1
  have he : B6.encN t.size = (t.size + 2) / 3 * 4 := rfl
  simp
  omega
theorem file_len : ∀ {xs : List (ByteArray × Int)}, All xs → (fileL xs).length ≤ 97 * xs.length
  | [], _ => by simp [fileL]
  | x :: xs, h => by
    have h1 := ln_len (h x (by simp))
    have h2 := file_len (xs := xs) (fun y hy => h y (by simp [hy]))
    rw [fileL_cons]
    simp
    omega
theorem fileL_app (xs ys : List (ByteArray × Int)) : fileL (xs ++ ys) = fileL xs ++ fileL ys := by simp [fileL]
theorem file_split (xs : List (ByteArray × Int)) (k : Nat) : fileL xs = fileL (xs.take k) ++ fileL (xs.drop k) := by rw [← fileL_app, List.take_append_drop]
theorem All.take {xs : List (ByteArray × Int)} (h : All xs) (k : Nat) : All (xs.take k) := fun x hx => h x (List.mem_of_mem_take hx)
theorem all_iff {xs : List (ByteArray × Int)} {n : Nat} (hn : xs.length = n) : All xs ↔ ∀ i, i < n → May (tat xs i) (kat xs i) := by
  have e : ∀ i (hi : i < xs.length), tat xs i = xs[i].1 ∧ kat xs i = xs[i].2 := fun i hi => by
    unfold tat kat
    rw [List.getD_eq_getElem?_getD, List.getElem?_eq_getElem hi]
    exact ⟨rfl, rfl⟩
  constructor
  · intro h i hi
    rw [(e i (by omega)).1, (e i (by omega)).2]
    exact h _ (List.getElem_mem _)
  · intro h x hx
    obtain ⟨i, hi, rfl⟩ := List.mem_iff_getElem.1 hx
    rw [← (e i hi).1, ← (e i hi).2]
    exact h i (by omega)
theorem take_snoc {xs : List (ByteArray × Int)} {j : Nat} (h : j < xs.length) {t : ByteArray} {k : Int} (ht : tat xs j = t) (hk : kat xs j = k) : xs.take (j + 1) = xs.take j ++ [(t, k)] := by
  subst ht hk
  unfold tat kat
  rw [List.take_add_one, List.getD_eq_getElem?_getD, List.getElem?_eq_getElem h]
  rfl
/-! ### Bytes as values -/
def bv (l : List UInt8) : List Value := l.map fun b => Value.int .u8 b.toNat
theorem bv_append (a b : List UInt8) : bv a ++ bv b = bv (a ++ b) := by simp [bv]
theorem bv_str (l : List UInt8) : Go.Lib.strCells (mk l) = bv l := rfl
theorem bv_vals (l : List UInt8) : bv l = vals (bytesF (mk l)) l.length := by
  rw [bytes_mk]
  apply List.ext_getElem
  · rw [vals_length]; simp [bv]
  · intro i h1 h2
    have hi : i < l.length := by simpa [bv] using h1
    simp [bv, vals, Ln.gF, hi]
end Go.Proofs.YthemaacfjmcbnaaDoor.Rk
