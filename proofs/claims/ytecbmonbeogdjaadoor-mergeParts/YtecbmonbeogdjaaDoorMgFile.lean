/-
  Files of tables: what is written is read as it was; what is read has one file. Plain mathematics.
-/
import Derived.Test.YtecbmonbeogdjaaDoorMgMath
import Derived.Test.YtecbmonbeogdjaaDoorLnFile
import Derived.Test.YtecbmonbeogdjaaDoorLotB
import Derived.Test.YtecbmonbeogdjaaDoorRkE0
namespace Go.Proofs.YtecbmonbeogdjaaDoor.Mg
open Go.Lib (decDigits itoa)

/-- The writing of bytes. -/
def wrS (t : ByteArray) : ByteArray := str (Le.wrF (bytesF t) t.size) (Le.wrN (bytesF t) t.size)
theorem wrS_st (t : ByteArray) : St (wrS t) (Le.wrN (bytesF t) t.size) (Le.wrF (bytesF t) t.size) := St.of (fun i => Le.wrF_bd (St.any t).bd _ i) _
theorem wrS_len (t : ByteArray) : t.size ≤ (wrS t).size ∧ (wrS t).size ≤ 2 * t.size := by
  rw [(wrS_st t).size]; exact Le.wrN_bd (St.any t).bd _
theorem rd_wr (t : ByteArray) : RdIs (wrS t) t := by
  refine ⟨bytesF t, t.size, ⟨(St.any t).bd, (wrS_st t).size.symm, fun i hi => ?_⟩, (St.any t).eq_str⟩
  rw [(wrS_st t).size] at hi
  exact (Rk.bytes_st (wrS_st t) i hi).symm
theorem RdIs.back {s t : ByteArray} (h : RdIs s t) : s = wrS t := by
  obtain ⟨g, k, h1, rfl⟩ := h
  have hg : ∀ i, i < k → bytesF (str g k) i = g i := Rk.bytes_st (St.of h1.bd k)
  unfold wrS
  rw [str_size, Le.wrN_congr hg, Le.wrF_congr hg, h1.size]
  exact (St.any s).eq_str.trans (str_congr fun i hi => (h1.get i hi).symm)
theorem wr_mem {t : ByteArray} {b : UInt8} (h : b ∈ by_ (wrS t)) : 32 < b.toNat := by
  obtain ⟨i, hi, e⟩ := Rk.mem_at h
  rw [by_length, (wrS_st t).size] at hi
  rw [← Rk.bytes_mk, mk_by, Rk.bytes_st (wrS_st t) i hi] at e
  have := (Le.wrF_clean (St.any t).bd _ i hi).1
  omega

def rowL (x : ByteArray × Int) : List UInt8 := by_ (wrS x.1) ++ 32 :: itoa x.2
def pairL (x : ByteArray × ByteArray) : List UInt8 := by_ (wrS x.1) ++ 32 :: by_ (wrS x.2)
def MayR (x : ByteArray × Int) : Prop := Rk.May x.1 x.2
def MayP (x : ByteArray × ByteArray) : Prop := (1 ≤ x.1.size ∧ x.1.size ≤ 64) ∧ 1 ≤ x.2.size ∧ x.2.size ≤ 64
def NoLF (l : List UInt8) : Prop := ∀ b ∈ l, b ≠ 10
theorem ne_lf {b : UInt8} (h : 32 < b.toNat) : b ≠ 10 := Rk.ne_of (by show 10 < b.toNat; omega)
theorem ne_sp {b : UInt8} (h : 32 < b.toNat) : b ≠ 32 := Rk.ne_of h
theorem row_no {x : ByteArray × Int} (h : MayR x) : NoLF (rowL x) := fun b hb => by
  rcases List.mem_append.1 hb with hb | hb
  · exact ne_lf (wr_mem hb)
  · rcases List.mem_cons.1 hb with rfl | hb
    · decide
    · exact ne_lf (by have := Rk.itoa_mem h.2.2.1 h.2.2.2 hb; omega)
theorem pair_no (x : ByteArray × ByteArray) : NoLF (pairL x) := fun b hb => by
  rcases List.mem_append.1 hb with hb | hb
  · exact ne_lf (wr_mem hb)
  · rcases List.mem_cons.1 hb with rfl | hb
    · decide
    · exact ne_lf (wr_mem hb)
theorem wr_ne {t : ByteArray} (h : 1 ≤ t.size) : by_ (wrS t) ≠ [] := fun e => by
  have h1 := by_length (wrS t)
  rw [e] at h1
  have := (wrS_len t).1
  simp at h1
  omega
theorem words2 {a b : List UInt8} (ha : ∀ x ∈ a, x ≠ 32) (hb : ∀ x ∈ b, x ≠ 32) (ha0 : a ≠ []) (hb0 : b ≠ []) : wds (mk (a ++ 32 :: b)) = [mk a, mk b] := by
  have h1 : Ln.pcs 32 [] (a ++ 32 :: b) = [a, b] := by
    rw [Ln.pcs_app, Rk.pcs_none ha, Rk.pcs_none hb]; rfl
  unfold wds
  rw [by_mk, Ln.words_good (fun x hx => by
    rw [h1] at hx
    simp at hx
    rcases hx with rfl | rfl
    · exact ha0
    · exact hb0), h1]
  rfl
theorem row_is {x : ByteArray × Int} (h : MayR x) : RowIs (mk (rowL x)) x := by
  have hn := Ln.num_itoa h.2.2.1 h.2.2.2
  have hw := words2 (a := by_ (wrS x.1)) (b := itoa x.2) (fun b hb => ne_sp (wr_mem hb)) (fun b hb => ne_sp (by have := Rk.itoa_mem h.2.2.1 h.2.2.2 hb; omega)) (wr_ne h.1) (fun e => by have := hn.1.1; rw [e] at this; simp at this)
  have e0 : Rk.w0 (mk (rowL x)) = wrS x.1 := by unfold Rk.w0 rowL; rw [hw]; exact mk_by _
  have e1 : Rk.w1 (mk (rowL x)) = mk (itoa x.2) := by unfold Rk.w1 rowL; rw [hw]; rfl
  refine ⟨by unfold rowL; rw [hw]; rfl, by rw [e0]; exact rd_wr _, ?_, ?_⟩
  · rw [e1]
    unfold Num
    rw [Rk.bytes_mk, mk_size]; exact hn.1
  · rw [e1]
    unfold num
    rw [Rk.bytes_mk, mk_size]; exact hn.2.symm
theorem pair_is {x : ByteArray × ByteArray} (h : MayP x) : PairIs (mk (pairL x)) x := by
  have hw := words2 (a := by_ (wrS x.1)) (b := by_ (wrS x.2)) (fun b hb => ne_sp (wr_mem hb)) (fun b hb => ne_sp (wr_mem hb)) (wr_ne h.1.1) (wr_ne h.2.1)
  have e0 : Rk.w0 (mk (pairL x)) = wrS x.1 := by unfold Rk.w0 pairL; rw [hw]; exact mk_by _
  have e1 : Rk.w1 (mk (pairL x)) = wrS x.2 := by unfold Rk.w1 pairL; rw [hw]; exact mk_by _
  exact ⟨by unfold pairL; rw [hw]; rfl, by rw [e0]; exact rd_wr _, by rw [e1]; exact rd_wr _⟩
theorem row_not_merges {x : ByteArray × Int} : mk (rowL x) ≠ sMerges := fun e => by
  have : (32 : UInt8) ∈ by_ sMerges := by rw [← e, by_mk]; simp [rowL]
  revert this
  decide +kernel

/-! ### From a line to its row -/
theorem two_words {s : ByteArray} (h : (wds s).length = 2) : s = mk (by_ (Rk.w0 s) ++ 32 :: by_ (Rk.w1 s)) ∧ by_ (Rk.w0 s) ≠ [] ∧ by_ (Rk.w1 s) ≠ [] := by
  unfold wds at h
  have hg : Ln.words (by_ s) = Ln.pcs 32 [] (by_ s) ∧ [] ∉ Ln.pcs 32 [] (by_ s) := by
    unfold Ln.words at h ⊢
    by_cases hm : [] ∈ Ln.pcs 32 [] (by_ s)
    · rw [if_pos hm] at h; simp at h
    · exact ⟨if_neg hm, hm⟩
  rw [List.length_map, hg.1] at h
  match hp : Ln.pcs 32 [] (by_ s), h with
  | [a, b], _ =>
    have e0 : Rk.w0 s = mk a := by unfold Rk.w0 wds; rw [hg.1, hp]; rfl
    have e1 : Rk.w1 s = mk b := by unfold Rk.w1 wds; rw [hg.1, hp]; rfl
    have hj := Ln.jn_words (by_ s)
    rw [hp] at hj
    rw [e0, e1, by_mk, by_mk]
    have hn := hg.2
    rw [hp] at hn
    simp at hn
    refine ⟨?_, hn.1, hn.2⟩
    rw [show a ++ 32 :: b = by_ s from hj, mk_by]
theorem RowIs.back {s : ByteArray} {x : ByteArray × Int} (h : RowIs s x) : s = mk (rowL x) ∧ 1 ≤ x.1.size ∧ 0 ≤ x.2 ∧ x.2 ≤ 9999999 := by
  obtain ⟨h1, h2, h3, h4⟩ := h
  obtain ⟨e, n0, n1⟩ := two_words h1
  have hd := (num_text (St.any (Rk.w1 s)) h3.2.2.2 h3.1).2 h3.2.2.1
  have hb := Ln.vF_bd7 h3.2.2.2 h3.2.1
  refine ⟨?_, ?_, by rw [h4]; exact hb.1, by rw [h4]; exact hb.2⟩
  · unfold rowL
    rw [← h2.back, h4]
    have : itoa (num (Rk.w1 s)) = by_ (Rk.w1 s) := by rw [← by_mk (itoa _)]; exact congrArg by_ hd
    rw [this]
    exact e
  · exact h2.pos (by rw [← by_length]; exact List.length_pos_iff.2 n0)
theorem PairIs.back {s : ByteArray} {x : ByteArray × ByteArray} (h : PairIs s x) : s = mk (pairL x) ∧ 1 ≤ x.1.size ∧ 1 ≤ x.2.size := by
  obtain ⟨h1, h2, h3⟩ := h
  obtain ⟨e, n0, n1⟩ := two_words h1
  refine ⟨?_, h2.pos (by rw [← by_length]; exact List.length_pos_iff.2 n0), h3.pos (by rw [← by_length]; exact List.length_pos_iff.2 n1)⟩
  unfold pairL
  rw [← h2.back, ← h3.back]
  exact e

/-! ### Files -/
def lv : List UInt8 := [118, 111, 99, 97, 98]
def lm : List UInt8 := [109, 101, 114, 103, 101, 115]
/-- Lines, each with its line feed. -/
def fileOf (ls : List (List UInt8)) : List UInt8 := ls.flatMap (· ++ [10])
def linesL (rs : Rows) (ps : Prs) : List (List UInt8) := lv :: (rs.map rowL ++ lm :: ps.map pairL)
def fileL (rs : Rows) (ps : Prs) : List UInt8 := fileOf (linesL rs ps)
def All (rs : Rows) : Prop := ∀ x ∈ rs, MayR x
def AllP (ps : Prs) : Prop := ∀ x ∈ ps, MayP x
theorem All.take {rs : Rows} (h : All rs) (k : Nat) : All (rs.take k) := fun x hx => h x (List.mem_of_mem_take hx)
theorem AllP.take {ps : Prs} (h : AllP ps) (k : Nat) : AllP (ps.take k) := fun x hx => h x (List.mem_of_mem_take hx)
theorem fileOf_cons (l : List UInt8) (ls : List (List UInt8)) : fileOf (l :: ls) = l ++ 10 :: fileOf ls := by simp [fileOf]
theorem fileOf_app (a b : List (List UInt8)) : fileOf (a ++ b) = fileOf a ++ fileOf b := by simp [fileOf]
theorem lines_fileOf : ∀ {ls : List (List UInt8)}, (∀ l ∈ ls, NoLF l) → Ln.lines (fileOf ls) = ls
  | [], _ => rfl
  | l :: ls, h => by
    rw [fileOf_cons, Rk.lines_wrong (h l (by simp)), lines_fileOf (fun x hx => h x (by simp [hx]))]
theorem linesL_no {rs : Rows} {ps : Prs} (h : All rs) : ∀ l ∈ linesL rs ps, NoLF l := by
  intro l hl
  rcases List.mem_cons.1 hl with rfl | hl
  · unfold NoLF lv; decide
  · rcases List.mem_append.1 hl with hl | hl
    · obtain ⟨x, hx, rfl⟩ := List.mem_map.1 hl
      exact row_no (h x hx)
    · rcases List.mem_cons.1 hl with rfl | hl
      · unfold NoLF lm; decide
      · obtain ⟨x, _, rfl⟩ := List.mem_map.1 hl
        exact pair_no x
theorem lns_fileOf {ls : List (List UInt8)} (h : ∀ l ∈ ls, NoLF l) : lns (mk (fileOf ls)) = ls.map mk := by
  unfold lns
  rw [by_mk, lines_fileOf h]

theorem run_rows {ls : List ByteArray} {rs : Rows} (h0 : at_ ls 0 = sVocab) (hr : ∀ i, i < rs.length → at_ ls (i + 1) = mk (rowL (tat rs i, kat rs i)) ∧ MayR (tat rs i, kat rs i)) : ∀ j, j ≤ rs.length → Run ls (j + 1) 1 (rs.take j) []
  | 0, _ => (Run.zero ls).step h0 (.inl ⟨rfl, rfl, rfl, rfl, rfl⟩)
  | j + 1, hj => by
    obtain ⟨e, hm⟩ := hr j (by omega)
    refine (run_rows h0 hr j (by omega)).step e (.inr (.inr (.inl ⟨rfl, row_not_merges, _, row_is hm, hm.2.1, rfl, ?_, rfl⟩)))
    exact Rk.take_snoc (by omega) rfl rfl
theorem ptake_snoc {xs : Prs} {j : Nat} (h : j < xs.length) {t k : ByteArray} (ht : lat xs j = t) (hk : gat xs j = k) : xs.take (j + 1) = xs.take j ++ [(t, k)] := by
  subst ht hk
  unfold lat gat
  rw [List.take_add_one, List.getD_eq_getElem?_getD, List.getElem?_eq_getElem h]
  rfl
theorem run_pairs {ls : List ByteArray} {rs : Rows} {ps : Prs} {n : Nat} (h0 : Run ls n 2 rs []) (hr : ∀ i, i < ps.length → at_ ls (n + i) = mk (pairL (lat ps i, gat ps i)) ∧ MayP (lat ps i, gat ps i)) : ∀ j, j ≤ ps.length → Run ls (n + j) 2 rs (ps.take j)
  | 0, _ => h0
  | j + 1, hj => by
    obtain ⟨e, hm⟩ := hr j (by omega)
    refine (run_pairs h0 hr j (by omega)).step e (.inr (.inr (.inr ⟨rfl, _, pair_is hm, hm.1.2, hm.2.2, rfl, rfl, ?_⟩)))
    exact ptake_snoc (by omega) rfl rfl
theorem rat_eq {rs : Rows} {i : Nat} (hi : i < rs.length) : (tat rs i, kat rs i) = rs[i] := by
  unfold tat kat
  rw [List.getD_eq_getElem?_getD, List.getElem?_eq_getElem hi]
  rfl
theorem pat_eq {ps : Prs} {i : Nat} (hi : i < ps.length) : (lat ps i, gat ps i) = ps[i] := by
  unfold lat gat
  rw [List.getD_eq_getElem?_getD, List.getElem?_eq_getElem hi]
  rfl
theorem at_rows {rs : Rows} {r : List ByteArray} {i : Nat} (hi : i < rs.length) : at_ (sVocab :: (rs.map (fun x => mk (rowL x)) ++ r)) (i + 1) = mk (rowL (tat rs i, kat rs i)) := by
  unfold at_
  rw [rat_eq hi, List.getD_eq_getElem?_getD, List.getElem?_cons_succ, List.getElem?_append_left (by simpa using hi), List.getElem?_map, List.getElem?_eq_getElem hi]
  rfl
/-- The rows at the front. -/
theorem run_front {rs : Rows} (h : All rs) (r : List ByteArray) : Run (sVocab :: (rs.map (fun x => mk (rowL x)) ++ r)) (rs.length + 1) 1 rs [] := by
  have := run_rows (ls := sVocab :: (rs.map (fun x => mk (rowL x)) ++ r)) (rs := rs) rfl (fun i hi => ⟨at_rows hi, by rw [rat_eq hi]; exact h _ (List.getElem_mem hi)⟩) rs.length (Nat.le_refl _)
  rwa [List.take_of_length_le (Nat.le_refl _)] at this
theorem at_behind (a : List ByteArray) (s : ByteArray) (b : List ByteArray) (i : Nat) : at_ (a ++ s :: b) (a.length + (i + 1)) = at_ b i ∧ at_ (a ++ s :: b) a.length = s := by
  constructor
  · unfold at_
    rw [List.getD_eq_getElem?_getD, List.getElem?_append_right (by omega), show a.length + (i + 1) - a.length = i + 1 by omega, List.getElem?_cons_succ, List.getD_eq_getElem?_getD]
  · unfold at_
    rw [List.getD_eq_getElem?_getD, List.getElem?_append_right (by omega)]
    simp
theorem map_linesL (rs : Rows) (ps : Prs) : (linesL rs ps).map mk = sVocab :: (rs.map (fun x => mk (rowL x)) ++ sMerges :: ps.map (fun x => mk (pairL x))) := by
  unfold linesL
  simp [List.map_map, Function.comp_def]
  exact ⟨rfl, rfl⟩
/-- What is written is read as it was. -/
theorem file_back {rs : Rows} {ps : Prs} (h : All rs) (k : AllP ps) : FileIs (lns (mk (fileL rs ps))) rs ps 0 0 := by
  unfold fileL
  rw [lns_fileOf (linesL_no h), map_linesL]
  refine .inl ⟨?_, rfl, rfl⟩
  have e2 := fun i => at_behind (sVocab :: rs.map (fun x => mk (rowL x))) sMerges (ps.map (fun x => mk (pairL x))) i
  simp only [List.cons_append, List.length_cons, List.length_map] at e2
  have u1 := (run_front h (sMerges :: ps.map (fun x => mk (pairL x)))).step (e2 0).2 (.inr (.inl ⟨rfl, rfl, rfl, rfl, rfl⟩))
  have u2 := run_pairs (ps := ps) u1 (fun i hi => ⟨by
    have := (e2 i).1
    rw [show rs.length + 1 + 1 + i = rs.length + 1 + (i + 1) by omega, this]
    unfold at_
    rw [pat_eq hi, List.getD_eq_getElem?_getD, List.getElem?_map, List.getElem?_eq_getElem hi]
    rfl, by rw [pat_eq hi]; exact k _ (List.getElem_mem hi)⟩) ps.length (Nat.le_refl _)
  rw [List.take_of_length_le (Nat.le_refl _)] at u2
  have : (sVocab :: (rs.map (fun x => mk (rowL x)) ++ sMerges :: ps.map (fun x => mk (pairL x)))).length = rs.length + 1 + 1 + ps.length := by simp; omega
  rw [this]
  exact u2
/-- Without a merges line that one is lacking. -/
theorem file_lack {rs : Rows} (h : All rs) : FileIs (lns (mk (fileOf (lv :: rs.map rowL)))) [] [] ((rs.length : Int) + 2) 2 := by
  rw [lns_fileOf (fun l hl => by
    rcases List.mem_cons.1 hl with rfl | hl
    · unfold NoLF lv; decide
    · obtain ⟨x, hx, rfl⟩ := List.mem_map.1 hl
      exact row_no (h x hx))]
  have e : (lv :: rs.map rowL).map mk = sVocab :: (rs.map (fun x => mk (rowL x)) ++ []) := by
    simp [List.map_map, Function.comp_def]; rfl
  rw [e]
  refine .inr (.inl ⟨rfl, rfl, 1, rs, [], by omega, ?_, ?_, rfl⟩)
  · have : (sVocab :: (rs.map (fun x => mk (rowL x)) ++ [])).length = rs.length + 1 := by simp
    rw [this]; exact run_front h []
  · simp; omega

/-! ### What is read has one file -/
theorem take_at {ls : List ByteArray} {j : Nat} (h : j < ls.length) : ls.take (j + 1) = ls.take j ++ [at_ ls j] := by
  unfold at_
  rw [List.take_add_one, List.getD_eq_getElem?_getD, List.getElem?_eq_getElem h]
  rfl
theorem run_lines {ls : List ByteArray} : ∀ {j st : Nat} {rs : Rows} {ps : Prs}, Run ls j st rs ps → j ≤ ls.length →
    All rs ∧ AllP ps ∧ ((st = 0 ∧ ls.take j = [] ∧ rs = [] ∧ ps = []) ∨ (st = 1 ∧ ls.take j = sVocab :: rs.map (fun x => mk (rowL x)) ∧ ps = []) ∨ (st = 2 ∧ ls.take j = (linesL rs ps).map mk))
  | 0, _, _, _, ⟨a, b, c⟩, _ => by
    subst b c
    exact ⟨fun x hx => by simp at hx, fun x hx => by simp at hx, .inl ⟨a, rfl, rfl, rfl⟩⟩
  | j + 1, st, rs, ps, ⟨st0, rs0, ps0, h, k⟩, hj => by
    obtain ⟨hA, hP, hs⟩ := run_lines h (by omega)
    rw [take_at (by omega)]
    rcases k with ⟨k1, k2, rfl, rfl, rfl⟩ | ⟨k1, k2, rfl, rfl, rfl⟩ | ⟨k1, k2, x, k3, k4, rfl, rfl, rfl⟩ | ⟨k1, x, k3, k4, k5, rfl, rfl, rfl⟩
    · rcases hs with ⟨_, e, rfl, rfl⟩ | ⟨e, _⟩ | ⟨e, _⟩
      · exact ⟨hA, hP, .inr (.inl ⟨rfl, by rw [e, k2]; rfl, rfl⟩)⟩
      · omega
      · omega
    · rcases hs with ⟨e, _⟩ | ⟨_, e, rfl⟩ | ⟨e, _⟩
      · omega
      · exact ⟨hA, hP, .inr (.inr ⟨rfl, by rw [e, k2, map_linesL]; simp⟩)⟩
      · omega
    · rcases hs with ⟨e, _⟩ | ⟨_, e, rfl⟩ | ⟨e, _⟩
      · omega
      · have hb := k3.back
        refine ⟨fun y hy => ?_, hP, .inr (.inl ⟨rfl, by rw [e, List.map_append]; simp [← hb.1], rfl⟩)⟩
        rcases List.mem_append.1 hy with hy | hy
        · exact hA y hy
        · obtain rfl : y = x := by simpa using hy
          exact ⟨hb.2.1, k4, hb.2.2.1, hb.2.2.2⟩
      · omega
    · rcases hs with ⟨e, _⟩ | ⟨e, _⟩ | ⟨_, e⟩
      · omega
      · omega
      · have hb := k3.back
        refine ⟨hA, fun y hy => ?_, .inr (.inr ⟨rfl, by rw [e, map_linesL, map_linesL, List.map_append]; simp [← hb.1]⟩)⟩
        rcases List.mem_append.1 hy with hy | hy
        · exact hP y hy
        · obtain rfl : y = x := by simpa using hy
          exact ⟨⟨hb.2.1, k4⟩, hb.2.2, k5⟩
theorem fileOf_pcs : ∀ (l acc : List UInt8), fileOf (Ln.pcs 10 acc l) = acc ++ l ++ [10]
  | [], acc => by simp [Ln.pcs, fileOf]
  | b :: r, acc => by
    unfold Ln.pcs
    split
    · rename_i h
      subst h
      rw [fileOf_cons, fileOf_pcs r []]; simp
    · rw [fileOf_pcs r (acc ++ [b])]; simp
theorem fileOf_lines {l : List UInt8} (h : l ≠ []) : fileOf (Ln.lines l) = l ∨ fileOf (Ln.lines l) = l ++ [10] := by
  unfold Ln.lines
  rw [if_neg h, fileOf_pcs]
  unfold Ln.trim
  split
  · rename_i e
    left
    rw [List.nil_append]
    exact (Ln.last_split e).symm
  · right; simp
theorem file_one' {X : ByteArray} {rs : Rows} {ps : Prs} (h : FileIs (lns X) rs ps 0 0) : All rs ∧ AllP ps ∧ (mk (fileL rs ps) = X ∨ mk (fileL rs ps) = X ++ ⟨#[10]⟩) := by
  rcases h with ⟨h, _, _⟩ | ⟨_, _, st, rs0, ps0, _, _, _, h⟩ | ⟨_, _, j, st, rs0, ps0, _, _, h, _⟩
  · obtain ⟨hA, hP, hs⟩ := run_lines h (Nat.le_refl _)
    rcases hs with ⟨e, _⟩ | ⟨e, _⟩ | ⟨_, e⟩
    · omega
    · omega
    · refine ⟨hA, hP, ?_⟩
      rw [List.take_of_length_le (Nat.le_refl _)] at e
      have e1 : Ln.lines (by_ X) = linesL rs ps := mk_map_inj e
      have hX : by_ X ≠ [] := fun h0 => by rw [h0] at e1; simp [Ln.lines, linesL] at e1
      unfold fileL
      rw [← e1]
      rcases fileOf_lines hX with h | h
      · left; rw [h, mk_by]
      · right; rw [h]; apply by_inj; rw [by_mk, by_append]; rfl
  · omega
  · exact absurd rfl h.nz

/-! ### How long files are -/
theorem row_len {x : ByteArray × Int} (h : MayR x) : (rowL x).length ≤ 136 := by
  unfold rowL
  have h1 := by_length (wrS x.1)
  have h2 := (Ln.num_itoa h.2.2.1 h.2.2.2).1.2.1
  have h3 := h.2.1
  have h4 := (wrS_len x.1).2
  simp
  omega
theorem pair_len {x : ByteArray × ByteArray} (h : MayP x) : (pairL x).length ≤ 257 := by
  unfold pairL
  have h1 := by_length (wrS x.1)
  have h2 := by_length (wrS x.2)
  have h3 := h.1.2
  have h4 := h.2.2
  have h5 := (wrS_len x.1).2
  have h6 := (wrS_len x.2).2
  simp
  omega
theorem rows_len : ∀ {rs : Rows}, All rs → (fileOf (rs.map rowL)).length ≤ 137 * rs.length
  | [], _ => by simp [fileOf]
  | x :: xs, h => by
    have h1 := row_len (h x (by simp))
    have h2 := rows_len (rs := xs) (fun y hy => h y (by simp [hy]))
    rw [List.map_cons, fileOf_cons]
    simp
    omega
theorem pairs_len : ∀ {ps : Prs}, AllP ps → (fileOf (ps.map pairL)).length ≤ 258 * ps.length
  | [], _ => by simp [fileOf]
  | x :: xs, h => by
    have h1 := pair_len (h x (by simp))
    have h2 := pairs_len (ps := xs) (fun y hy => h y (by simp [hy]))
    rw [List.map_cons, fileOf_cons]
    simp
    omega
theorem fileL_eq (rs : Rows) (ps : Prs) : fileL rs ps = (lv ++ [10]) ++ fileOf (rs.map rowL) ++ (lm ++ [10]) ++ fileOf (ps.map pairL) := by
  unfold fileL linesL
  rw [fileOf_cons, fileOf_app, fileOf_cons]
  simp
theorem fileL_len {rs : Rows} {ps : Prs} (h : All rs) (k : AllP ps) : (fileL rs ps).length ≤ 13 + 137 * rs.length + 258 * ps.length := by
  rw [fileL_eq]
  have h1 := rows_len h
  have h2 := pairs_len k
  simp [lv, lm]
  omega
theorem all_iff {xs : Rows} {n : Nat} (hn : xs.length = n) : All xs ↔ ∀ i, i < n → MayR (tat xs i, kat xs i) := by
  constructor
  · intro h i hi
    rw [rat_eq (by omega)]
    exact h _ (List.getElem_mem _)
  · intro h x hx
    obtain ⟨i, hi, rfl⟩ := List.mem_iff_getElem.1 hx
    rw [← rat_eq hi]
    exact h i (by omega)
theorem allP_iff {xs : Prs} {n : Nat} (hn : xs.length = n) : AllP xs ↔ ∀ i, i < n → MayP (lat xs i, gat xs i) := by
  constructor
  · intro h i hi
    rw [pat_eq (by omega)]
    exact h _ (List.getElem_mem _)
  · intro h x hx
    obtain ⟨i, hi, rfl⟩ := List.mem_iff_getElem.1 hx
    rw [← pat_eq hi]
    exact h i (by omega)
end Go.Proofs.YtecbmonbeogdjaaDoor.Mg
