/-
  'make([]T, n)' and 'copy' over rows told by functions, for things of any kind of integer: laws for the plain walk and for a region that draws. No program is named here.
-/
import Derived.Test.YthemaacfjmcbnaaDoorRg
import Derived.OwnWalk
namespace Go.Proofs.YthemaacfjmcbnaaDoor
open Go.RowKit

theorem made_kv (K : IntKind) (n : Nat) : madeCells (Value.int K 0).cells (n * 1) = (kv K (fun _ => 0) n).toArray := by
  apply Array.toList_inj.1
  have h : (madeCells (Value.int K 0).cells (n * 1)).toList = List.replicate n (.int K 0) := by rw [Nat.mul_one]; exact toList_madeCells_one _ n
  rw [h]
  apply List.ext_getElem?
  intro i
  by_cases hi : i < n
  · simp [hi, kv]
  · simp [hi, kv]
theorem run_make_kv {P : Program} (w : World) (K : IntKind) (t e : TypeId) (i : TypeInfo) (ht : P.underlying t = some (.slice e)) (hi : P.info? e = some i) (hz : i.zero = some (.int K 0)) (hsize : i.size = 1) (hby : i.bytes ≤ 8)
    (n : Nat) (hn : n ≤ 1048576) : (Instr.makeSlice t (.int .i64 (n : Int)) (.int .i64 (n : Int))).run P w = .ok (.slice (some ⟨w.heap.size, 0, none⟩) n n) (w.alloc (.cells (kv K (fun _ => 0) n).toArray e)) := by
  have hb : (i.bytes : Int) * (n : Int) ≤ 281474976710656 := by
    have h1 : i.bytes * n ≤ 8 * 1048576 := Nat.mul_le_mul hby hn
    have h2 : ((i.bytes * n : Nat) : Int) ≤ 281474976710656 := by omega
    rwa [Int.natCast_mul] at h2
  have hr := run_make (P := P) w t e i _ ht hi hz .i64 .i64 n n (by omega) (Int.le_refl _) hb (by omega)
  simp only [Int.toNat_natCast, hsize] at hr
  rw [hr, made_kv]
/-- What a 'make' leaves: a row of noughts behind all that there was. -/
structure Made (w : World) (K : IntKind) (e : TypeId) (n : Nat) (w' : World) : Prop where
  row : w'.heap[w.heap.size]? = some (.cells (kv K (fun _ => 0) n).toArray e (0, 0))
  below : Below w.heap.size w w'
theorem wpList_make_kv {P : Program} {w : World} {ops : Array Oper} {rest : List Oper} {o : Oper} {a : Act} {Q : Exit → Act → World → Prop} (hg : o.guard = none) (l c : Operand) (t : TypeId) (hop : o.op = Op.makeSlice t l c)
    (K : IntKind) (e : TypeId) (i : TypeInfo) (ht : P.underlying t = some (.slice e)) (hi : P.info? e = some i) (hz : i.zero = some (.int K 0)) (hsize : i.size = 1) (hby : i.bytes ≤ 8)
    (n : Nat) (hn : n ≤ 1048576) (hl : a.eval l = .int .i64 (n : Int)) (hc : a.eval c = .int .i64 (n : Int))
    (hK : ∀ w', Hid (Made w K e n w') → wpList P ops Q rest (a.put o.dst (.slice (some ⟨w.heap.size, 0, none⟩) n n)) w') : wpList P ops Q (o :: rest) a w := by
  refine wpList_plain hg fun K' hK' => ?_
  have hrun := run_make_kv (P := P) w K t e i ht hi hz hsize hby n hn
  unfold Oper.wp
  simp [execOp, hop, hl, hc, hrun, Result.andThen]
  exact hK' _ _ (hK _ ⟨heap_alloc_new w _, (Below.refl _ _).alloc (Nat.le_refl _) _⟩)
theorem step_make_kv {P : Program} {w : World} {ops : Array Oper} {o : Oper} {a : Act} {KK : Act → World → Prop} {Q : Exit → Act → World → Prop} {E : Prop} (hg : o.guard = none) (l c : Operand) (t : TypeId) (hop : o.op = Op.makeSlice t l c)
    (K : IntKind) (e : TypeId) (i : TypeInfo) (ht : P.underlying t = some (.slice e)) (hi : P.info? e = some i) (hz : i.zero = some (.int K 0)) (hsize : i.size = 1) (hby : i.bytes ≤ 8)
    (n : Nat) (hn : n ≤ 1048576) (hl : a.eval l = .int .i64 (n : Int)) (hc : a.eval c = .int .i64 (n : Int))
    (hK : ∀ w', Hid (Made w K e n w') → KK (a.put o.dst (.slice (some ⟨w.heap.size, 0, none⟩) n n)) w') : if Region.wanted o (yielded ops a.tmps) = true then Oper.wp P o a w KK Q else E := by
  have hw : Region.wanted o (yielded ops a.tmps) = true := by simp [Region.wanted, hg]
  rw [if_pos hw]
  have hrun := run_make_kv (P := P) w K t e i ht hi hz hsize hby n hn
  unfold Oper.wp
  simp [execOp, hop, hl, hc, hrun, Result.andThen]
  exact hK _ ⟨heap_alloc_new w _, (Below.refl _ _).alloc (Nat.le_refl _) _⟩

/-- f from place off on, over g. -/
def ovk (g : Nat → Int) (off : Nat) (f : Nat → Int) (m : Nat) : Nat → Int := fun i => if off ≤ i ∧ i < off + m then f (i - off) else g i
theorem splice_kv (K : IntKind) (f g : Nat → Int) (off m N : Nat) (h : off + m ≤ N) : splice (kv K g N) off (kv K f m) = kv K (ovk g off f m) N := by
  unfold splice
  rw [kv_length]
  apply List.ext_getElem?
  intro i
  by_cases h1 : i < off
  · rw [List.getElem?_append_left (by simp [kv_length]; omega), List.getElem?_take_of_lt h1, kv_get _ _ _ _ (by omega), kv_get _ _ _ _ (by omega)]
    unfold ovk; rw [if_neg (by omega)]
  · rw [List.getElem?_append_right (by simp [kv_length]; omega)]
    have e : i - (List.take off (kv K g N)).length = i - off := by simp [kv_length]; omega
    rw [e]
    by_cases h2 : i < off + m
    · rw [List.getElem?_append_left (by simp [kv_length]; omega), kv_get _ _ _ _ (by omega), kv_get _ _ _ _ (by omega)]
      unfold ovk; rw [if_pos (by omega)]
    · rw [List.getElem?_append_right (by simp [kv_length]; omega), kv_length, List.getElem?_drop, show off + m + (i - off - m) = i by omega]
      by_cases h3 : i < N
      · rw [kv_get _ _ _ _ h3, kv_get _ _ _ _ h3]
        unfold ovk; rw [if_neg (by omega)]
      · rw [kv_none _ _ _ _ (by omega), kv_none _ _ _ _ (by omega)]
/-- 'copy(dst[off:], src[soff:])', k things, both rows known whole. -/
theorem step_copy_kv {P : Program} {ops : Array Oper} {o : Oper} {a : Act} {w : World} {KK : Act → World → Prop} {Q : Exit → Act → World → Prop} {E : Prop} (hgd : o.guard = none) (d s : Operand) (dT sT : TypeId)
    (ho : o.op = .call { callee := .builtin .copy, args := #[d, s], argTypes := #[dT, sT] }) (K : IntKind) (elem : TypeId) (hu : P.underlying dT = some (.slice elem)) (hsz : (P.info? elem).map (·.size) = some 1)
    (G off N dLen dCap : Nat) (dp : Option Addr) (D soff n sLen sCap : Nat) (sp : Option Addr) (hd : a.eval d = .slice dp dLen dCap) (hs : a.eval s = .slice sp sLen sCap)
    (h f : Nat → Int) (hg : w.heap[G]? = some (.cells (kv K h N).toArray elem (0, 0))) (hsr : w.heap[D]? = some (.cells (kv K f n).toArray elem (0, 0)))
    (k : Nat) (hk : k = Nat.min sLen dLen) (hdp : 0 < k → dp = some ⟨G, off, none⟩) (hsp : 0 < k → sp = some ⟨D, soff, none⟩) (hN : off + k ≤ N) (hn : 0 < k → soff + k ≤ n)
    (B : Nat) (w0 : World) (hb : Below B w0 w) (hBg : B ≤ G)
    (hK : ∀ w', Hid (w'.heap[G]? = some (.cells (kv K (ovk h off (fun i => f (soff + i)) k) N).toArray elem (0, 0))) → Below B w0 w' → KK (a.put o.dst (.int .i64 k)) w') :
    if Region.wanted o (yielded ops a.tmps) = true then Oper.wp P o a w KK Q else E := by
  refine step_copy_splice hgd d s dT sT ho elem hu hsz dp sp dLen dCap sLen sCap hd hs G off (kv K h N) elem hg (kv K (fun i => f (soff + i)) k) (by rw [kv_length, hk]) ?_ (by rw [kv_length, kv_length]; omega) (kv_one K _ _) B w0 hb hBg ?_
  · intro h0
    rw [kv_length] at h0
    refine ⟨hdp h0, ⟨D, soff, none⟩, hsp h0, fun j v hj => ?_⟩
    obtain ⟨hlt, rfl⟩ := kv_inv hj
    rw [Addr.add_lit]
    have e := kv_get K f n (soff + j) (by have := hn h0; omega)
    simp only [World.cell?, hsr]
    simpa using e
  · intro w' h1 h2
    rw [splice_kv _ _ _ _ _ _ hN] at h1
    have e : (goInt (kv K (fun i => f (soff + i)) k).length) = .int .i64 k := by rw [kv_length]; rfl
    rw [e]
    exact hK w' h1 h2
/-- The same for the plain walk. -/
theorem wpList_copy_kv {P : Program} {ops : Array Oper} {rest : List Oper} {o : Oper} {a : Act} {w : World} {Q : Exit → Act → World → Prop} (hgd : o.guard = none) (d s : Operand) (dT sT : TypeId)
    (ho : o.op = .call { callee := .builtin .copy, args := #[d, s], argTypes := #[dT, sT] }) (K : IntKind) (elem : TypeId) (hu : P.underlying dT = some (.slice elem)) (hsz : (P.info? elem).map (·.size) = some 1)
    (G off N dLen dCap : Nat) (dp : Option Addr) (D soff n sLen sCap : Nat) (sp : Option Addr) (hd : a.eval d = .slice dp dLen dCap) (hs : a.eval s = .slice sp sLen sCap)
    (h f : Nat → Int) (hg : w.heap[G]? = some (.cells (kv K h N).toArray elem (0, 0))) (k : Nat) (hsr : 0 < k → w.heap[D]? = some (.cells (kv K f n).toArray elem (0, 0)))
    (hk : k = Nat.min sLen dLen) (hdp : 0 < k → dp = some ⟨G, off, none⟩) (hsp : 0 < k → sp = some ⟨D, soff, none⟩) (hN : off + k ≤ N) (hn : 0 < k → soff + k ≤ n)
    (B : Nat) (w0 : World) (hb : Below B w0 w) (hBg : B ≤ G)
    (hK : ∀ w', Hid (w'.heap[G]? = some (.cells (kv K (ovk h off (fun i => f (soff + i)) k) N).toArray elem (0, 0))) → Below B w0 w' → wpList P ops Q rest (a.put o.dst (.int .i64 k)) w') :
    wpList P ops Q (o :: rest) a w := by
  refine wpList_copy_splice hgd d s dT sT ho elem hu hsz dp sp dLen dCap sLen sCap hd hs G off (kv K h N) elem hg (kv K (fun i => f (soff + i)) k) (by rw [kv_length, hk]) ?_ (by rw [kv_length, kv_length]; omega) (kv_one K _ _) B w0 hb hBg ?_
  · intro h0
    rw [kv_length] at h0
    refine ⟨hdp h0, ⟨D, soff, none⟩, hsp h0, fun j v hj => ?_⟩
    obtain ⟨hlt, rfl⟩ := kv_inv hj
    rw [Addr.add_lit]
    have e := kv_get K f n (soff + j) (by have := hn h0; omega)
    simp only [World.cell?, hsr h0]
    simpa using e
  · intro w' h1 h2
    rw [splice_kv _ _ _ _ _ _ hN] at h1
    have e : (goInt (kv K (fun i => f (soff + i)) k).length) = .int .i64 k := by rw [kv_length]; rfl
    rw [e]
    exact hK w' h1 h2
end Go.Proofs.YthemaacfjmcbnaaDoor
