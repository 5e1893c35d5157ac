/-
  Several texts in one: LnMath, LnA, LnP, LnT, LnL, LnW, LnR, LnLen, LnNum, LnN1, LnN2, LnN3.
-/
import Derived.Test.YtecbmonbeogdjaaDoorLotA
import Derived.RangeFuncBox
import Derived.OwnWalkIn
import Derived.Test.YtecbmonbeogdjaaDoorChecked
import Derived.RangeFuncNested
import Derived.RangeFuncBound
import Derived.RangeFuncCalls
import Derived.RangeFuncLeaves
import Derived.Shelf.Abstract
import Derived.Shelf.RegionOpen
import Derived.WalkKit
import Derived.TacticsInMore
import Derived.LoopNIn
import Derived.LoopIn
import Derived.Lib.Agree
import Derived.Deep.LoopGhost
import Derived.Deep.QuietTactic
import Derived.BigQuiet
import Derived.OwnWalk
import Derived.WalkSmall
import Derived.Lib.ItoaLen
/-
  Pieces of a text between signs, lines and words: plain mathematics.
-/
namespace Go.Proofs.YtecbmonbeogdjaaDoor.Ln

/-- The pieces of a text between the signs c, 'acc' being what stands ahead of it. -/
def pcs (c : UInt8) : List UInt8 → List UInt8 → List (List UInt8)
  | acc, [] => [acc]
  | acc, b :: r => if b = c then acc :: pcs c [] r else pcs c (acc ++ [b]) r

theorem pcs_nil (c : UInt8) (acc : List UInt8) : pcs c acc [] = [acc] := rfl
theorem pcs_hit (c : UInt8) (acc r : List UInt8) : pcs c acc (c :: r) = acc :: pcs c [] r := by rw [pcs, if_pos rfl]
theorem pcs_miss {c b : UInt8} (h : b ≠ c) (acc r : List UInt8) : pcs c acc (b :: r) = pcs c (acc ++ [b]) r := by rw [pcs, if_neg h]
theorem pcs_ne (c : UInt8) : ∀ (l acc : List UInt8), pcs c acc l ≠ []
  | [], acc => by simp [pcs]
  | b :: r, acc => by
    unfold pcs
    split
    · simp
    · exact pcs_ne c r _
theorem pcs_app (c : UInt8) (b : List UInt8) : ∀ (a acc : List UInt8), pcs c acc (a ++ c :: b) = pcs c acc a ++ pcs c [] b
  | [], acc => by rw [List.nil_append, pcs_hit, pcs_nil]; rfl
  | x :: a, acc => by
    by_cases h : x = c
    · subst h
      rw [List.cons_append, pcs_hit, pcs_hit, pcs_app x b a, List.cons_append]
    · rw [List.cons_append, pcs_miss h, pcs_miss h, pcs_app c b a]
theorem pcs_snoc (c : UInt8) (a acc : List UInt8) : pcs c acc (a ++ [c]) = pcs c acc a ++ [[]] := by rw [pcs_app c [] a acc, pcs_nil]

/-- A text without a line feed at its end. -/
def trim (l : List UInt8) : List UInt8 := if l.getLast? = some 10 then l.dropLast else l
/-- The lines of a text. -/
def lines (l : List UInt8) : List (List UInt8) := if l = [] then [] else pcs 10 [] (trim l)
/-- Behind these bytes an empty line stands ahead of what follows. -/
def gap (a : List UInt8) : List (List UInt8) := if a = [] ∨ a.getLast? = some 10 then [[]] else []

theorem last_split {l : List UInt8} {x : UInt8} (h : l.getLast? = some x) : l = l.dropLast ++ [x] := by
  have hne : l ≠ [] := by rintro rfl; simp at h
  rw [List.getLast?_eq_some_getLast hne] at h
  rw [← Option.some.inj h]
  exact (List.dropLast_concat_getLast hne).symm
theorem trim_snoc (l : List UInt8) : trim (l ++ [10]) = l := by unfold trim; simp
theorem lines_all (a : List UInt8) : pcs 10 [] a = lines a ++ gap a := by
  unfold lines gap
  by_cases h0 : a = []
  · subst h0; simp [pcs]
  · rw [if_neg h0]
    by_cases h1 : a.getLast? = some 10
    · rw [if_pos (.inr h1)]
      have e := last_split h1
      conv => lhs; rw [e]
      rw [pcs_snoc, trim, if_pos h1]
    · rw [if_neg (by simp [h0, h1]), trim, if_neg h1, List.append_nil]
theorem lines_join (a b : List UInt8) : lines (a ++ 10 :: b) = lines a ++ gap a ++ lines b := by
  rw [← lines_all a]
  unfold lines
  rw [if_neg (by simp)]
  by_cases h0 : b = []
  · subst h0
    rw [if_pos rfl, trim_snoc, List.append_nil]
  · rw [if_neg h0, ← pcs_app]
    congr 1
    unfold trim
    have e1 : (a ++ 10 :: b).getLast? = b.getLast? := by
      rw [List.getLast?_append, List.getLast?_cons, List.getLast?_eq_some_getLast h0]; simp
    rw [e1]
    split
    · rw [List.dropLast_append_of_ne_nil (by simp), List.dropLast_cons_of_ne_nil h0]
    · rfl
/-- What the pieces without the last one are, if the text ends with a line feed; all of them, if not. -/
theorem lines_ends {l : List UInt8} {out : List (List UInt8)} {last : List UInt8} (h : pcs 10 [] l = out ++ [last]) (hl : l.getLast? = some 10) : out = lines l := by
  have e := lines_all l
  rw [h, gap, if_pos (.inr hl)] at e
  exact (List.append_inj' e rfl).1
theorem lines_goes {l : List UInt8} {out : List (List UInt8)} {last : List UInt8} (h : pcs 10 [] l = out ++ [last]) (h0 : l ≠ []) (hl : l.getLast? ≠ some 10) : out ++ [last] = lines l := by
  have e := lines_all l
  rw [h, gap, if_neg (by simp [h0, hl]), List.append_nil] at e
  exact e

/-- The words of a line; none, if it has an empty one. -/
def words (l : List UInt8) : List (List UInt8) := if [] ∈ pcs 32 [] l then [] else pcs 32 [] l
theorem words_bad {l : List UInt8} {pre rest : List (List UInt8)} (h : pcs 32 [] l = pre ++ [] :: rest) : words l = [] := by
  unfold words; rw [if_pos (by rw [h]; simp)]
theorem words_good {l : List UInt8} (h : ∀ x ∈ pcs 32 [] l, x ≠ []) : words l = pcs 32 [] l := by
  unfold words; rw [if_neg (fun hm => h [] hm rfl)]
/-- Words with one blank between. -/
def jn : List (List UInt8) → List UInt8
  | [] => []
  | [x] => x
  | x :: y :: r => x ++ 32 :: jn (y :: r)
theorem jn_snoc (x : List UInt8) : ∀ (l : List (List UInt8)), l ≠ [] → jn (l ++ [x]) = jn l ++ 32 :: x
  | [], h => absurd rfl h
  | [y], _ => by simp [jn]
  | y :: z :: r, _ => by
    have ih := jn_snoc x (z :: r) (by simp)
    simp only [List.cons_append] at ih ⊢
    rw [jn, ih, jn]
    simp
theorem jn_pcs : ∀ (l acc : List UInt8) (pre : List (List UInt8)), jn (pre ++ pcs 32 acc l) = jn (pre ++ [acc ++ l])
  | [], acc, pre => by rw [pcs_nil, List.append_nil]
  | b :: r, acc, pre => by
    by_cases h : b = 32
    · subst h
      have ih := jn_pcs r [] (pre ++ [acc])
      rw [pcs_hit, show pre ++ acc :: pcs 32 [] r = (pre ++ [acc]) ++ pcs 32 [] r by simp, ih, jn_snoc _ _ (by simp), List.nil_append]
      cases pre with
      | nil => simp [jn]
      | cons p ps => rw [jn_snoc _ _ (by simp), jn_snoc _ _ (by simp)]; simp
    · rw [pcs_miss h, jn_pcs r _ pre]; simp
theorem jn_words (l : List UInt8) : jn (pcs 32 [] l) = l := by
  have := jn_pcs l [] []
  simpa [jn] using this
end Go.Proofs.YtecbmonbeogdjaaDoor.Ln

/-
  'append' within a fence, for whatever slice is appended; a box that collects, beside two boxes that are kept. No program is named here.
-/
namespace Go.Proofs.YtecbmonbeogdjaaDoor
open Go.RowKit

theorem wpListIn_append_src {F : Fence} {k : Nat} {P : Program} {w : World} {ops : Array Oper} {rest : List Oper} {o : Oper} {a : Act} {Q : Exit → Act → World → Prop} (hgd : o.guard = none) (s x : Operand) (t : TypeId)
    (ho : o.op = .call { callee := .builtin .append, args := #[s, x], argTypes := #[t, t] })
    (base : Nat) (e : TypeId) (i : TypeInfo) (z : Value) (size bytes : Nat) (ht : P.underlying t = some (.slice e)) (hi : P.info? e = some i) (hz : i.zero = some z)
    (hsize : i.size = size) (hby : i.bytes = bytes) (hzs : z.cells.size = size) (hsz : 0 < size)
    (v : Value) (n : Nat) (xs : List Value) (hs : a.eval s = v) (hown : w.ownsRow base e size v n xs) (ao : Option Addr) (m c : Nat) (news : List Value) (hx : a.eval x = .slice ao m c) (hsrc : Src w ao m c size news)
    (h63 : n + m ≤ maxLen) (hbytes : (n + m) * bytes ≤ 140737488355328) (hbase : base ≤ w.heap.size)
    (h : ∀ v' w', w'.ownsRow base e size v' (n + m) (xs ++ news) → w.grownBy w' v.ownBlock → (v'.ownBlock = v.ownBlock ∨ v'.ownBlock = some w.heap.size) → wpListIn F k P ops Q rest (a.put o.dst v') w') : wpListIn F k P ops Q (o :: rest) a w := by
  refine wpListIn_plain hgd fun K hK' => ?_
  obtain ⟨v', w', hrun, r1, r2, r3⟩ := run_append_src (P := P) (w := w) base t o.type e i z size bytes ht hi hz hsize hby hzs hsz v n xs hown ao m c news hsrc h63 hbytes hbase
  unfold Oper.wpIn
  refine ⟨?_, ?_⟩
  · simp [Oper.about, ho, resolve, Target.leads, Sem.run_pure]
  · rw [Oper.semAt_plain F _ _ (by rw [ho]; intro c hc'; cases hc')]
    simp [execOp, ho, resolve, invoke, builtin, hs, hx, hrun, Result.andThen]
    exact hK' _ _ (h v' w' r1 r2 r3)

/-- A block that is neither the box nor the row's own lies as it lay behind 'out = append(out, x)'. -/
theorem block_appended {W w1 : World} {B Bs : Nat} {v v' : Value} {tmp : Obj} (hgrow : (W.alloc tmp).grownBy w1 v.ownBlock) (h1 : Bs < W.heap.size) (h2 : v.ownBlock ≠ some Bs) (h3 : Bs ≠ B) : (w1.setCell ⟨B, 0, none⟩ v').heap[Bs]? = W.heap[Bs]? := by
  rw [Below.heap_setCell _ _ _ Bs h3, hgrow.block Bs (by simp; omega) (fun e => h2 e.symm)]
  exact Below.heap_alloc _ _ _ h1
/-- .. and the row's own block is not among the kept ones. -/
theorem block_new {W : World} {v v' : Value} {tmp : Obj} {M : Nat} (hv : ∀ g, v.ownBlock = some g → M ≤ g) (hM : M ≤ W.heap.size) (h : v'.ownBlock = v.ownBlock ∨ v'.ownBlock = some (W.alloc tmp).heap.size) : ∀ g, v'.ownBlock = some g → M ≤ g := by
  intro g hg
  rcases h with h | h
  · exact hv g (by rw [← h]; exact hg)
  · rw [h] at hg
    simp at hg
    omega
theorem src_text {w : World} (x : ByteArray) (t : TypeId) : Src (w.alloc (.cells #[.string x] t)) (some ⟨w.heap.size, 0, none⟩) 1 1 1 [.string x] :=
  Src.new #[.string x] t w.heap.size rfl rfl (fun u hu => by simp at hu; subst hu; rfl)
end Go.Proofs.YtecbmonbeogdjaaDoor

/-
  The walk of line.parts and of the function that it answers: which pieces are handed out.
-/
namespace Go.Proofs.YtecbmonbeogdjaaDoor
open Go.RowKit Go.Shelf
set_option linter.unusedVariables false
attribute [local go_sem] Oper.semAt_some

/-! ### Pieces by places -/
/-- The pieces from place i on, what stands from fr up to i being part of the first one. -/
def rest (c : UInt8) (s : ByteArray) (fr i : Nat) : List ByteArray := (Ln.pcs c (((by_ s).take i).drop fr) ((by_ s).drop i)).map mk
/-- All of them. -/
def ps (c : UInt8) (s : ByteArray) : List ByteArray := (Ln.pcs c [] (by_ s)).map mk
theorem rest_zero (c : UInt8) (s : ByteArray) : rest c s 0 0 = ps c s := by simp [rest, ps]
theorem mk_extract (s : ByteArray) (i j : Nat) : mk (((by_ s).take j).drop i) = s.extract i j := by rw [← by_extract, mk_by]
theorem rest_done (c : UInt8) (s : ByteArray) (fr : Nat) : rest c s fr s.size = [s.extract fr s.size] := by
  unfold rest
  rw [show (by_ s).drop s.size = [] from List.drop_eq_nil_of_le (by rw [by_length]; exact Nat.le_refl _), Ln.pcs_nil, List.map_cons, List.map_nil, mk_extract]
theorem rest_hit {c : UInt8} {s : ByteArray} {fr i : Nat} (hi : i < s.size) (h : bytesF s i = c.toNat) : rest c s fr i = s.extract fr i :: rest c s (i + 1) (i + 1) := by
  obtain ⟨x, e, hx, _⟩ := by_get hi
  obtain rfl : x = c := UInt8.toNat_inj.1 (by omega)
  unfold rest
  rw [e, Ln.pcs_hit, List.map_cons, mk_extract, List.drop_take_self]
theorem rest_miss {c : UInt8} {s : ByteArray} {fr i : Nat} (hi : i < s.size) (hf : fr ≤ i) (h : bytesF s i ≠ c.toNat) : rest c s fr i = rest c s fr (i + 1) := by
  obtain ⟨x, e, hx, hx2⟩ := by_get hi
  have hne : x ≠ c := by rintro rfl; omega
  unfold rest
  rw [e, Ln.pcs_miss hne]
  congr 2
  rw [List.take_add_one, hx2, List.drop_append_of_le_length (by rw [List.length_take, by_length]; omega)]
  rfl
theorem ext_step (s : ByteArray) {fr i : Nat} (hi : i < s.size) (hf : fr ≤ i) : s.extract fr i ++ s.extract i (i + 1) = s.extract fr (i + 1) := by
  apply by_inj
  rw [by_append, by_extract, by_extract, by_extract]
  obtain ⟨x, e, hx, hx2⟩ := by_get hi
  rw [List.take_add_one, hx2, List.drop_append_of_le_length (by rw [List.length_take, by_length]; omega), List.drop_append_of_le_length (by rw [List.length_take, by_length]; omega), List.drop_take_self]
  rfl
theorem ext_none (s : ByteArray) (i : Nat) : s.extract i i = ⟨#[]⟩ := by
  apply by_inj
  rw [by_extract, List.drop_take_self]
  rfl

theorem grown_drew (w : World) : w.grownBy w.drew none := ⟨rfl, rfl, rfl, Nat.le_refl _, fun _ _ _ => rfl⟩
/-- Two boxes lie as they lay. -/
def Kept (Bs Bc : Nat) (W W' : World) : Prop := W'.heap[Bs]? = W.heap[Bs]? ∧ W'.heap[Bc]? = W.heap[Bc]?
theorem kept_t {Bs Bc : Nat} {A B C : World} (h : Kept Bs Bc A B) (k : Kept Bs Bc B C) : Kept Bs Bc A C := ⟨k.1.trans h.1, k.2.trans h.2⟩
theorem kept_b {Bs Bc : Nat} {w : World} (h1 : Bs < w.heap.size) (h2 : Bc < w.heap.size) (W : World) (l : Nat) (o o' : Obj) (hl : w.heap.size ≤ l) (h : W.heap[l]? = some o) (_ : o.isCells = false) (_ : o.isWalk = false) : Kept Bs Bc W (W.putObj l o') :=
  ⟨World.putObj_heap_other (by omega), World.putObj_heap_other (by omega)⟩

set_option maxHeartbeats 1000000 in
theorem parts_in (n : Nat) (s : ByteArray) (c : Int) (w : World) :
    CallsIn Fence.wide n Tryd.prog 34 #[.string s, .int .u8 c] w fun e w' => e = .returned (.func (.func 43) #[] #[.pointer (some ⟨w.heap.size, 0, none⟩), .pointer (some ⟨w.heap.size + 1, 0, none⟩)]) ∧ w' = (w.alloc (.cells #[.string s] 9)).alloc (.cells #[.int .u8 c] 5) := by
  refine callsIn_of_wp Tryd.func34 rfl trivial ?_ rfl
  simp only [Tryd.ntmps34, List.size_toArray, List.length_cons, List.length_nil, Nat.reduceAdd, Nat.reduceSub, Array.replicate_succ, Array.replicate_zero, List.push_toArray, List.append_toArray, List.nil_append, List.cons_append]
  gi_wp2
  go_ret
  exact ⟨rfl, rfl⟩

set_option maxRecDepth 100000 in
set_option maxHeartbeats 2000000 in
theorem parts1_in (n : Nat) (hn : 1 ≤ n) (l Bs Bc : Nat) (s : ByteArray) (c : UInt8) (ci : Int) (hci : ci = c.toNat) (hsz : s.size ≤ 1048576) (J Jx : List ByteArray → World → Prop) (hJd : ∀ pre W, J pre W → J pre W.drew)
    (hY : ∀ pre x W, J pre W → pre.length < (ps c s).length → YieldAt Fence.wide (n - 1) Tryd.prog l #[.string x] W fun e W' =>
      (e = .returned (.bool true) ∧ J (pre ++ [x]) W' ∧ Kept Bs Bc W W') ∨ (e = .returned (.bool false) ∧ Jx (pre ++ [x]) W'))
    (W : World) (hBs : Boxed W Bs 9 (.string s)) (hBc : Boxed W Bc 5 (.int .u8 ci)) (h0 : J [] W) :
    CallsIn Fence.wide n Tryd.prog 43 #[.func (.yield l) #[] #[], .pointer (some ⟨Bs, 0, none⟩), .pointer (some ⟨Bc, 0, none⟩)] W fun e W' => (∃ v, e = .returned v) ∧
      ((∃ ys, ys = ps c s ∧ J ys W') ∨ (∃ pre, pre <+: ps c s ∧ Jx pre W')) := by
  have hS := St.any s
  obtain ⟨hs1, hget, hbd⟩ := hS
  obtain ⟨N, hN⟩ : ∃ N, s.size = N := ⟨_, rfl⟩
  obtain ⟨f, hf⟩ : ∃ f, bytesF s = f := ⟨_, rfl⟩
  rw [hf] at hget hbd
  have HF := hid hf
  have HBD := hid hbd
  clear hf hbd hs1
  have q1 := hBs.cell
  refine callsIn_of_wp Tryd.func43 rfl trivial ?_ rfl
  simp only [Tryd.ntmps43, List.size_toArray, List.length_cons, List.length_nil, Nat.reduceAdd, Nat.reduceSub, Array.replicate_succ, Array.replicate_zero, List.push_toArray, List.append_toArray, List.nil_append, List.cons_append]
  gi_wp2
  gi_loopw [4, 8] (fun fv iv wr => ∃ (pre : List ByteArray) (fr i : Nat), fv = .int .i64 fr ∧ iv = .int .i64 i ∧ fr ≤ i ∧ i ≤ N ∧ Hid (ps c s = pre ++ rest c s fr i) ∧ Boxed wr Bs 9 (.string s) ∧ Boxed wr Bc 5 (.int .u8 ci) ∧ Hid (J pre wr))
    (fun _ iv _ => N - (Lib.intOf iv).toNat)
  case atStart => exact ⟨[], 0, 0, rfl, rfl, by omega, by omega, hid (by rw [rest_zero]; rfl), hBs, hBc, hid h0⟩
  case round =>
    obtain ⟨pre, fr, i, rfl, rfl, hfi, hiN, HP, b1, b2, HJ⟩ := hrel
    have q1 := b1.cell
    have q2 := b2.cell
    have hdN : (fr : Int) ≤ N := by omega
    have k00 : (0 : Int) ≤ fr := by omega
    by_cases hlt : i < N
    · have k0 : (0 : Int) ≤ i := by omega
      have k1 : (i : Int) < N := by omega
      have k2 : (i : Int) ≤ N := by omega
      have k3 : (fr : Int) ≤ i := by omega
      have k4 : ¬ (i : Int) < fr := by omega
      have e2 : IntKind.i64.wrap ((i : Int) + 1) = i + 1 := i64_in (by omega) (by omega)
      by_cases hc : f i = ci
      · have HE := hid (rest_hit (fr := fr) (show i < s.size by omega) (by rw [HF.out, hc, hci]))
        have hl : pre.length < (ps c s).length := by rw [HP.out, HE.out]; simp
        obtain ⟨fn, tmps, assign, body, hy, hR⟩ := hY pre (s.extract fr i) wr.drew (hJd _ _ HJ.out) hl
        gi_wp2
        gi_region
        gi_wp2
        refine hR.mono ?_
        rintro e W3 (⟨rfl, hJ3, hk3⟩ | ⟨rfl, hJx3⟩)
        · have b13 : Boxed W3 Bs 9 (.string s) := hk3.1.trans b1
          have b23 : Boxed W3 Bc 5 (.int .u8 ci) := hk3.2.trans b2
          gi_wp2
          go_roundw
          case rel => exact ⟨pre ++ [s.extract fr i], i + 1, i + 1, by go_num, by go_num, Nat.le_refl _, by omega, hid (by rw [HP.out, HE.out]; simp), b13, b23, hid hJ3⟩
          case measure => simp [Lib.intOf]; omega
        · gi_wp2
          refine bodyPost_ret (results_none rfl _ _ _) rfl ?_
          exact ⟨⟨_, rfl⟩, .inr ⟨pre ++ [s.extract fr i], ⟨rest c s (i + 1) (i + 1), by rw [HP.out, HE.out]; simp⟩, hJx3⟩⟩
      · have HE := hid (rest_miss (show i < s.size by omega) hfi (by rw [HF.out, ← hci]; exact hc))
        have hJ3 := hJd _ _ HJ.out
        gi_wp2
        gi_region
        gi_wp2
        go_roundw
        case rel => exact ⟨pre, fr, i + 1, rfl, by go_num, by omega, by omega, hid (by rw [HP.out, HE.out]), b1, b2, hid hJ3⟩
        case measure => simp [Lib.intOf]; omega
    · obtain rfl : i = N := by omega
      have k1 : ¬ (i : Int) < i := by omega
      have HE := hid (show rest c s fr i = [s.extract fr i] by rw [← hN]; exact rest_done c s fr)
      have hl : pre.length < (ps c s).length := by rw [HP.out, HE.out]; simp
      obtain ⟨fn, tmps, assign, body, hy, hR⟩ := hY pre (s.extract fr i) wr HJ.out hl
      gi_wp2
      refine hR.mono ?_
      rintro e W3 (⟨rfl, hJ3, hk3⟩ | ⟨rfl, hJx3⟩)
      · gi_wp2
        go_end0
        exact ⟨⟨_, rfl⟩, .inl ⟨pre ++ [s.extract fr i], by rw [HP.out, HE.out], hJ3⟩⟩
      · gi_wp2
        go_end0
        exact ⟨⟨_, rfl⟩, .inr ⟨pre ++ [s.extract fr i], by rw [HP.out, HE.out]; exact List.prefix_refl _, hJx3⟩⟩

/-- What parts answers hands out the pieces, in order, as long as it is wanted. -/
theorem parts_stops (n : Nat) (hn : 1 ≤ n) (Bs Bc : Nat) (s : ByteArray) (c : UInt8) (ci : Int) (hci : ci = c.toNat) (hsz : s.size ≤ 1048576) (w : World) (hBs : Boxed w Bs 9 (.string s)) (hBc : Boxed w Bc 5 (.int .u8 ci)) :
    SeqStopsK Fence.wide n Tryd.prog 43 #[.pointer (some ⟨Bs, 0, none⟩), .pointer (some ⟨Bc, 0, none⟩)] (fun x : ByteArray => #[Value.string x]) (Kept Bs Bc) (fun ys => ys = ps c s) (fun pre => pre <+: ps c s) (ps c s).length w := fun l J Jx W hW hJ _ hY h0 =>
  parts1_in n hn l Bs Bc s c ci hci hsz J Jx (fun pre A hA => hJ pre A A.drew none hA (grown_drew A) (fun r e => by cases e)) hY W ((hW.block Bs hBs.lt).trans hBs) ((hW.block Bc hBc.lt).trans hBc) h0
end Go.Proofs.YtecbmonbeogdjaaDoor

/-
  The walk of strings.TrimSuffix at a line feed.
-/
namespace Go.Proofs.YtecbmonbeogdjaaDoor
open Go.RowKit
set_option linter.unusedVariables false

def lf : ByteArray := ⟨#[10]⟩
theorem trim_yes {s : ByteArray} {M : Nat} (hz : s.size = M + 1) (h : bytesF s M = 10) : s.extract M (M + 1) = lf ∧ s.extract 0 M = mk (Ln.trim (by_ s)) := by
  obtain ⟨x, e, hx, hx2⟩ := by_get (s := s) (i := M) (by omega)
  have hx10 : x = 10 := UInt8.toNat_inj.1 (by show x.toNat = 10; omega)
  subst hx10
  have hl : (by_ s).length = M + 1 := by rw [by_length, hz]
  have hd : (by_ s).drop M = [10] := by rw [e, List.drop_eq_nil_of_le (by omega)]
  have hs : by_ s = (by_ s).take M ++ [10] := by
    conv => lhs; rw [← List.take_append_drop M (by_ s)]
    rw [hd]
  constructor
  · apply by_inj
    rw [by_extract, List.take_of_length_le (by omega), hd]
    rfl
  · rw [← mk_extract, List.drop_zero]
    congr 1
    conv => rhs; rw [hs]
    rw [Ln.trim_snoc]
theorem trim_no {s : ByteArray} {M : Nat} (hz : s.size = M + 1) (h : bytesF s M ≠ 10) : s.extract M (M + 1) ≠ lf ∧ s = mk (Ln.trim (by_ s)) := by
  obtain ⟨x, e, hx, hx2⟩ := by_get (s := s) (i := M) (by omega)
  have hx10 : x ≠ 10 := by rintro rfl; exact h (by rw [← hx]; rfl)
  have hl : (by_ s).length = M + 1 := by rw [by_length, hz]
  have hd : (by_ s).drop M = [x] := by rw [e, List.drop_eq_nil_of_le (by omega)]
  constructor
  · intro he
    have := congrArg by_ he
    rw [by_extract, List.take_of_length_le (by omega), hd] at this
    exact hx10 (by simpa [lf, by_] using this)
  · have hla : (by_ s).getLast? = some x := by rw [List.getLast?_eq_getElem?, hl]; exact hx2
    rw [Ln.trim, if_neg (by rw [hla]; simpa using hx10), mk_by]
theorem trim_none {s : ByteArray} (hz : s.size = 0) : s = mk (Ln.trim (by_ s)) := by
  have : by_ s = [] := List.eq_nil_of_length_eq_zero (by rw [by_length, hz])
  rw [Ln.trim, if_neg (by rw [this]; simp), mk_by]

set_option maxRecDepth 100000 in
set_option maxHeartbeats 1600000 in
theorem trim_calls (s : ByteArray) (hsz : s.size ≤ 1048576) (w : World) : Calls Tryd.prog 35 #[.string s, .string ⟨#[10]⟩] w fun e w' => e = .returned (.string (mk (Ln.trim (by_ s)))) ∧ w' = w := by
  obtain ⟨N, hN⟩ : ∃ N, s.size = N := ⟨_, rfl⟩
  cases N with
  | zero =>
    have HT := hid (trim_none hN)
    go_enter Tryd.func35, Tryd.ntmps35
    go_wp2
    go_ret
    exact ⟨by rw [← HT.out]; rfl, rfl⟩
  | succ M =>
    have k1 : (1 : Int) ≤ (M : Int) + 1 := by omega
    have e1 : IntKind.i64.wrap ((M : Int) + 1 - 1) = M := by rw [i64_in (by omega) (by omega)]; omega
    have k2 : (M : Int) ≤ (M : Int) + 1 := by omega
    have k3 : (0 : Int) ≤ M := by omega
    by_cases h : bytesF s M = 10
    · have HT := hid (trim_yes hN h)
      have hx : ((s.extract M (M + 1)).toList == [10]) = true := by rw [HT.out.1, by_toList]; rfl
      go_enter Tryd.func35, Tryd.ntmps35
      go_wp2
      go_ret
      exact ⟨by rw [← HT.out.2]; rfl, rfl⟩
    · have HT := hid (trim_no hN h)
      have hx : ((s.extract M (M + 1)).toList == [10]) = false := by
        rw [beq_eq_false_iff_ne, by_toList]; exact fun he => HT.out.1 (by_inj he)
      go_enter Tryd.func35, Tryd.ntmps35
      go_wp2
      go_ret
      exact ⟨by rw [← HT.out.2]; rfl, rfl⟩
end Go.Proofs.YtecbmonbeogdjaaDoor

/-
  The walk of line.Lines.
-/
namespace Go.Proofs.YtecbmonbeogdjaaDoor
open Go.RowKit Go.Shelf
set_option linter.unusedVariables false
attribute [local go_sem] Oper.semAt_some

theorem Tryd.infoS : (Tryd.prog.info? 9).map (fun i => (i.zero, i.size, i.bytes)) = some (some (.string ⟨#[]⟩), 1, 16) := by kernel_rfl
theorem pcs_len (c : UInt8) : ∀ (l acc : List UInt8), (Ln.pcs c acc l).length ≤ l.length + 1
  | [], acc => by simp [Ln.pcs]
  | b :: r, acc => by
    unfold Ln.pcs
    split
    · have := pcs_len c r []
      simp; omega
    · have := pcs_len c r (acc ++ [b])
      simp; omega
theorem ps_len (c : UInt8) (s : ByteArray) : (ps c s).length ≤ s.size + 1 := by
  have := pcs_len c (by_ s) []
  rw [by_length] at this
  simpa [ps] using this
/-- The lines of a text, as texts. -/
def lns (s : ByteArray) : List ByteArray := (Ln.lines (by_ s)).map mk

set_option maxRecDepth 100000 in
set_option maxHeartbeats 3200000 in
theorem lines_calls (a : Option Addr) (n c : Nat) (f : Nat → Int) (w : World) (hn : n ≤ 100000) (hS : Sl w a n c f) :
    Calls Tryd.prog 23 #[.slice a n c] w fun e w' => ∃ a' k cap, e = .returned (.slice a' k cap) ∧ Ts w' a' k cap (lns (str f n)) ∧ Below w.heap.size w w' := by
  obtain ⟨i0, hi, hz0, hz1, hz2⟩ := info_parts Tryd.infoS
  have HS := hid hS
  clear hS
  by_cases hn0 : n = 0
  · subst hn0
    have HL := hid (show lns (str f 0) = [] from rfl)
    go_enter Tryd.func23, Tryd.ntmps23
    go_wp2_with fail
    go_ret
    exact ⟨none, 0, 0, rfl, by rw [HL.out]; exact ⟨rfl, Nat.le_refl _, Nat.zero_le _, fun _ => ⟨rfl, rfl⟩, fun h => absurd h (by omega)⟩, Below.refl _ _⟩
  have hn1 : ¬ (n : Int) = 0 := by omega
  obtain ⟨X, hX⟩ : ∃ X, str f n = X := ⟨_, rfl⟩
  have hXs : X.size = n := by rw [← hX]; exact str_size f n
  obtain ⟨t, ht⟩ : ∃ t, mk (Ln.trim (by_ X)) = t := ⟨_, rfl⟩
  have hts : t.size ≤ n := by
    rw [← ht, mk_size, ← hXs, ← by_length]
    unfold Ln.trim
    split
    · simp
    · exact Nat.le_refl _
  have HL := hid (show lns (str f n) = ps 10 t by
    unfold lns ps Ln.lines
    rw [hX, if_neg (fun h => by have := by_length X; rw [h] at this; simp at this; omega), ← ht, by_mk])
  have HX := hid hX
  have HT := hid ht
  clear hX ht
  have hpl := ps_len 10 t
  refine (callsIn_wide (n := 8)).1 ?_
  refine callsIn_of_wp_marks Tryd.func23 rfl trivial ?_ rfl
  simp only [Tryd.ntmps23, List.size_toArray, List.length_cons, List.length_nil, Nat.reduceAdd, Nat.reduceSub, Array.replicate_succ, Array.replicate_zero, List.push_toArray, List.append_toArray, List.nil_append, List.cons_append]
  have cv := run_convert_sl (P := Tryd.prog) (w.alloc (.cells #[.slice none 0 0] 57)) 28 5 9 Tryd.underlying28 Tryd.underlying5 Tryd.underlying9 (HS.out.below ((Below.refl _ _).alloc (Nat.le_refl _) _))
  rw [HX.out] at cv
  gi_wp2_with fail
  refine ⟨trivial, ?_⟩
  refine (callsIn_wide.2 (trim_calls X (by omega) _)).mono ?_
  rintro e w' ⟨rfl, rfl⟩
  rw [HT.out]
  gi_wp2_with fail
  refine ⟨trivial, ?_⟩
  refine (parts_in _ t 10 _).mono ?_
  rintro e w' ⟨rfl, rfl⟩
  gi_wp2_with fail
  have bO := Boxed.new w 57 (.slice none 0 0)
  have bS := Boxed.new (w.alloc (.cells #[.slice none 0 0] 57)) 9 (.string t)
  have bC := Boxed.new ((w.alloc (.cells #[.slice none 0 0] 57)).alloc (.cells #[.string t] 9)) 5 (.int .u8 10)
  rw [World.size_alloc] at bS
  rw [World.size_alloc, World.size_alloc] at bC
  have hB0 : Below w.heap.size w (((w.alloc (.cells #[.slice none 0 0] 57)).alloc (.cells #[.string t] 9)).alloc (.cells #[.int .u8 10] 5)) := (((Below.refl _ w).alloc (Nat.le_refl _) _).alloc (by simp) _).alloc (by simp; omega) _
  refine wpIn_rangeFunc_ownG rfl (by omega) (gf := 43) (lb := #[.pointer (some ⟨w.heap.size + 1, 0, none⟩), .pointer (some ⟨w.heap.size + 1 + 1, 0, none⟩)]) rfl trivial (enters_of Tryd.func43 (by kernel_rfl) rfl)
    (parts_stops _ (by omega) (w.heap.size + 1) (w.heap.size + 1 + 1) t 10 10 rfl (by omega) _ (bS.alloc _) bC) kept_t (kept_b (by simp) (by simp)) (Below.refl _ _) (fun _ => rfl)
    (fun pre W => (∃ v, Boxed W w.heap.size 57 v ∧ W.ownsRow w.heap.size 9 1 v pre.length (tv pre) ∧ (∀ g, v.ownBlock = some g → w.heap.size + 3 ≤ g)) ∧ (Below w.heap.size w W ∧ w.heap.size + 3 ≤ W.heap.size))
    (fun _ _ _ => False)
    (OwnFrom.and (Own.from (holdsRow_own w.heap.size w.heap.size 57 9 1 (fun pre => pre.length) (fun pre => tv pre) (fun pre v => ∀ g, v.ownBlock = some g → w.heap.size + 3 ≤ g)) _) (OwnFrom.and (ownFrom_below (Nat.le_refl _) (by simp; omega)) (fun s X Y row h hg _ => Nat.le_trans h hg.size)))
    (fun _ _ _ _ _ hs _ _ => hs)
    ⟨⟨_, (bO.alloc _).alloc _, World.ownsRow_nil _ _ _ _, fun g hg => by simp [Value.ownBlock] at hg⟩, hB0, by simp⟩
    (fun x => { tmps := #[.slice a n c, undef, .slice none 0 0, .pointer (some ⟨w.heap.size, 0, none⟩), .string x, .slice a n c, .int .i64 n, .bool false, .slice a n c, .string X, .string t, .func (.func 43) #[] #[.pointer (some ⟨w.heap.size + 1, 0, none⟩), .pointer (some ⟨w.heap.size + 1 + 1, 0, none⟩)], .string x, undef, undef, undef, undef, undef], defers := [] }) ?assign ?body ?done ?stop
  case assign =>
    intro l x W K hK
    gi_wp2
    exact hK
  case body =>
    rintro l pre x W ⟨⟨v, hv, hrow, hg⟩, hB, hM⟩ hlt
    have hc := hv.cell
    gi_wp2_with (gi_at_builtin; refine wpListIn_append_src rfl _ _ 57 rfl w.heap.size 9 i0 (.string ⟨#[]⟩) 1 16 Tryd.underlying57 hi hz0 hz1 hz2 rfl (by decide) _ _ _ rfl (hrow.alloc _) (some ⟨W.heap.size, 0, none⟩) 1 1 [.string x] rfl (src_text x _) (by unfold maxLen; omega) (by omega) (by have := hB.size; simp; omega) ?_; intro v' w1 hown' hgrow hob; obtain ⟨g', cap', rfl⟩ := ownsRow_succ hown'; obtain ⟨hv1, hv2, hr2, hk2, hb2⟩ := hv.appended (by decide) hrow hB.size (Nat.le_refl _) hown' hgrow; have hc1 := hv1.cell; have hf1 := hv1.frozen)
    have hne : ∀ B, B < w.heap.size + 3 → v.ownBlock ≠ some B := fun B hB' e => by have := hg B e; omega
    exact ⟨hk2.from _, ⟨block_appended hgrow (by omega) (hne _ (by omega)) (by omega), block_appended hgrow (by omega) (hne _ (by omega)) (by omega)⟩, ⟨_, hv2, by simpa [tv] using hr2, block_new hg hM hob⟩, hB.trans hb2, Nat.le_trans hM (by have := hb2.size; omega)⟩
  case done =>
    rintro D ys W hD rfl ⟨⟨v, hv, hrow, hg⟩, hB, hM⟩ hK
    have hc := hv.cell
    gi_wp2
    refine ⟨by simp, .inl ⟨_, _, rfl, run_takeDeferred hK, ?_⟩⟩
    obtain ⟨a', cap, rfl, hT⟩ := Ts.ofOwn (ownsRow_putObj hrow (.deferred none) hK rfl)
    exact ⟨_, results_tmp rfl _ _ _, _, _, _, rfl, by rw [HL.out]; exact hT, hB.trans (belowK_b (w := w) (Nat.le_refl _) W D _ _ (by simp at hD; omega) hK rfl rfl)⟩
  case stop =>
    rintro D c pre W _ _ h _
    exact h.elim
end Go.Proofs.YtecbmonbeogdjaaDoor

/-
  The walk of line.Words.
-/
namespace Go.Proofs.YtecbmonbeogdjaaDoor
open Go.RowKit Go.Shelf
set_option linter.unusedVariables false
attribute [local go_sem] Oper.semAt_some

theorem mk_nil : mk [] = ⟨#[]⟩ := rfl
theorem empty_yes {x : ByteArray} (h : x = ⟨#[]⟩) : x.toList.isEmpty = true ∧ x.toList = [] := by subst h; rw [by_toList]; exact ⟨rfl, rfl⟩
theorem empty_no {x : ByteArray} (h : x ≠ ⟨#[]⟩) : x.toList.isEmpty = false ∧ ¬ x.toList = [] := by
  have : ¬ x.toList = [] := fun e => h (by_inj (by rw [← by_toList, e]; rfl))
  exact ⟨by cases hx : x.toList with | nil => exact absurd hx this | cons => rfl, this⟩
/-- The words of a line are all of its pieces, none of which is empty. -/
def WGood (s : ByteArray) : Prop := Ln.words (by_ s) = Ln.pcs 32 [] (by_ s)
theorem wgood {s : ByteArray} (h : ∀ x ∈ ps 32 s, x ≠ ⟨#[]⟩) : WGood s :=
  Ln.words_good fun x hx e => h (mk x) (List.mem_map.2 ⟨x, hx, rfl⟩) (by rw [e]; rfl)
theorem wbad {s : ByteArray} {q : List ByteArray} (h : q ++ [⟨#[]⟩] <+: ps 32 s) : Ln.words (by_ s) = [] := by
  have hm : (⟨#[]⟩ : ByteArray) ∈ ps 32 s := h.subset (by simp)
  obtain ⟨x, hx, hx2⟩ := List.mem_map.1 hm
  have : x = [] := mk_inj hx2
  subst this
  unfold Ln.words
  rw [if_pos hx]
/-- What Words answers. -/
def WOut (s : ByteArray) (e : Ending) (w' : World) : Prop :=
  (WGood s ∧ ∃ a k cap, e = .returned (.tuple #[.slice a k cap, .bool true]) ∧ Ts w' a k cap (ps 32 s)) ∨
  (Ln.words (by_ s) = [] ∧ e = .returned (.tuple #[.slice none 0 0, .bool false]))

set_option maxRecDepth 100000 in
set_option maxHeartbeats 3200000 in
theorem words_calls (s : ByteArray) (w : World) (hsz : s.size ≤ 100000) :
    Calls Tryd.prog 49 #[.string s] w fun e w' => WOut s e w' ∧ Below w.heap.size w w' := by
  obtain ⟨i0, hi, hz0, hz1, hz2⟩ := info_parts Tryd.infoS
  have hpl := ps_len 32 s
  refine (callsIn_wide (n := 8)).1 ?_
  refine callsIn_of_wp_marks Tryd.func49 rfl trivial ?_ rfl
  simp only [Tryd.ntmps49, List.size_toArray, List.length_cons, List.length_nil, Nat.reduceAdd, Nat.reduceSub, Array.replicate_succ, Array.replicate_zero, List.push_toArray, List.append_toArray, List.nil_append, List.cons_append]
  gi_wp2_with fail
  refine ⟨trivial, ?_⟩
  refine (parts_in _ s 32 _).mono ?_
  rintro e w' ⟨rfl, rfl⟩
  gi_wp2_with fail
  obtain ⟨w1, hw1⟩ : ∃ w1, w.alloc (.cells #[.slice none 0 0] 57) = w1 := ⟨_, rfl⟩
  obtain ⟨w2, hw2⟩ : ∃ w2, w1.alloc (.cells #[.bool false] 4) = w2 := ⟨_, rfl⟩
  obtain ⟨w3, hw3⟩ : ∃ w3, w2.alloc (.cells #[.slice none 0 0] 57) = w3 := ⟨_, rfl⟩
  obtain ⟨w4, hw4⟩ : ∃ w4, w3.alloc (.cells #[.string s] 9) = w4 := ⟨_, rfl⟩
  obtain ⟨w5, hw5⟩ : ∃ w5, w4.alloc (.cells #[.int .u8 32] 5) = w5 := ⟨_, rfl⟩
  have s1 : w1.heap.size = w.heap.size + 1 := by rw [← hw1]; simp
  have s2 : w2.heap.size = w.heap.size + 2 := by rw [← hw2]; simp [s1]
  have s3 : w3.heap.size = w.heap.size + 3 := by rw [← hw3]; simp [s2]
  have s4 : w4.heap.size = w.heap.size + 4 := by rw [← hw4]; simp [s3]
  have s5 : w5.heap.size = w.heap.size + 5 := by rw [← hw5]; simp [s4]
  have bR : Boxed w5 w.heap.size 57 (.slice none 0 0) := by
    rw [← hw5, ← hw4, ← hw3, ← hw2, ← hw1]; exact ((((Boxed.new w _ _).alloc _).alloc _).alloc _).alloc _
  have bB : Boxed w5 (w.heap.size + 1) 4 (.bool false) := by
    rw [← hw5, ← hw4, ← hw3, ← hw2, ← s1]; exact (((Boxed.new w1 _ _).alloc _).alloc _).alloc _
  have bO : Boxed w5 (w.heap.size + 2) 57 (.slice none 0 0) := by
    rw [← hw5, ← hw4, ← hw3, ← s2]; exact ((Boxed.new w2 _ _).alloc _).alloc _
  have bS : Boxed w5 (w.heap.size + 3) 9 (.string s) := by
    rw [← hw5, ← hw4, ← s3]; exact (Boxed.new w3 _ _).alloc _
  have bC : Boxed w5 (w.heap.size + 4) 5 (.int .u8 32) := by
    rw [← hw5, ← s4]; exact Boxed.new w4 _ _
  have hB0 : Below w.heap.size w w5 := by
    rw [← hw5, ← hw4, ← hw3, ← hw2, ← hw1]
    exact (((((Below.refl _ w).alloc (Nat.le_refl _) _).alloc (by simp) _).alloc (by simp; omega) _).alloc (by simp; omega) _).alloc (by simp; omega) _
  simp only [hw1, hw2, hw3, hw4, hw5, Nat.add_assoc, Nat.reduceAdd]
  clear hw1 hw2 hw3 hw4 hw5 s1 s2 s3 s4
  obtain ⟨B, hBd⟩ : ∃ B, w.heap.size = B := ⟨_, rfl⟩
  simp only [hBd] at bR bB bO bS bC hB0 s5 ⊢
  have hBle : B ≤ w.heap.size := by omega
  refine wpIn_rangeFunc_ownG rfl (by omega) (gf := 43) (lb := #[.pointer (some ⟨B + 3, 0, none⟩), .pointer (some ⟨B + 4, 0, none⟩)]) rfl trivial (enters_of Tryd.func43 (by kernel_rfl) rfl)
    (parts_stops _ (by omega) (B + 3) (B + 4) s 32 32 rfl (by omega) _ bS bC) kept_t (kept_b (by omega) (by omega)) (Below.refl _ _) (fun _ => rfl)
    (fun pre W => ((∃ v, Boxed W (B + 2) 57 v ∧ W.ownsRow B 9 1 v pre.length (tv pre) ∧ (∀ g, v.ownBlock = some g → B + 5 ≤ g)) ∧ (Below B w W ∧ B + 5 ≤ W.heap.size)) ∧ ((Boxed W B 57 (.slice none 0 0) ∧ Boxed W (B + 1) 4 (.bool false)) ∧ (∀ x ∈ pre, x ≠ ⟨#[]⟩)))
    (fun c pre W => ((Boxed W B 57 (.slice none 0 0) ∧ Boxed W (B + 1) 4 (.bool false)) ∧ Below B w W) ∧ (c = .ret ∧ ∃ q, pre = q ++ [⟨#[]⟩]))
    (OwnFrom.and (OwnFrom.and (Own.from (holdsRow_own B (B + 2) 57 9 1 (fun pre => pre.length) (fun pre => tv pre) (fun pre v => ∀ g, v.ownBlock = some g → B + 5 ≤ g)) _) (OwnFrom.and (ownFrom_below hBle (by omega)) (fun s X Y row h hg _ => Nat.le_trans h hg.size))) (OwnFrom.and (OwnFrom.and (Own.from (boxed_own B 57 (fun _ => .slice none 0 0)) _) (Own.from (boxed_own (B + 1) 4 (fun _ => .bool false)) _)) (ownFrom_pure _ (fun (pre : List ByteArray) => ∀ x ∈ pre, x ≠ ⟨#[]⟩))))
    (fun c => OwnFrom.and (OwnFrom.and (OwnFrom.and (Own.from (boxed_own B 57 (fun _ => .slice none 0 0)) _) (Own.from (boxed_own (B + 1) 4 (fun _ => .bool false)) _)) (ownFrom_below hBle (by omega))) (ownFrom_pure _ (fun (pre : List ByteArray) => c = .ret ∧ ∃ q, pre = q ++ [⟨#[]⟩])))
    ⟨⟨⟨_, bO, World.ownsRow_nil _ _ _ _, fun g hg => by simp [Value.ownBlock] at hg⟩, hB0, by omega⟩, ⟨bR, bB⟩, fun x hx => by simp at hx⟩
    (fun x => { tmps := #[.string s, undef, .pointer (some ⟨B, 0, none⟩), .pointer (some ⟨B + 1, 0, none⟩), .pointer (some ⟨B + 2, 0, none⟩), .string x, .string s, .func (.func 43) #[] #[.pointer (some ⟨B + 3, 0, none⟩), .pointer (some ⟨B + 4, 0, none⟩)], .string x, undef, undef, undef, undef, undef, undef, undef], defers := [] }) ?assign ?body ?done ?stop
  case assign =>
    intro l x W K hK
    gi_wp2
    exact hK
  case body =>
    rintro l pre x W ⟨⟨⟨v, hv, hrow, hg⟩, hB, hM⟩, ⟨c0, c1⟩, hne⟩ hlt
    have hc := hv.cell
    have q0 := c0.cell
    have q1 := c1.cell
    have p0 := c0.frozen
    have p1 := c1.frozen
    by_cases hx : x = ⟨#[]⟩
    · have hx1 := (empty_yes hx).1
      have hx2 := (empty_yes hx).2
      have c0' := (c0.set (.slice none 0 0)).other (B' := B + 1) (by omega) (.bool false)
      have c1' := (c1.other (B' := B) (by omega) (.slice none 0 0)).set (.bool false)
      have q1' := (c1.other (B' := B) (by omega) (.slice none 0 0)).cell
      have p1' := (c1.other (B' := B) (by omega) (.slice none 0 0)).frozen
      gi_wp2_with fail
      exact ⟨((KeepsOthers.setCell _ _ _).trans (KeepsOthers.setCell _ _ _)).from _, ⟨⟨c0', c1'⟩, (hB.setCell (p := ⟨B, 0, none⟩) (Nat.le_refl _) _).setCell (p := ⟨B + 1, 0, none⟩) (by simp) _⟩, rfl, pre, by rw [hx]⟩
    · have hx1 := (empty_no hx).1
      have hx2 := (empty_no hx).2
      have HX := hid hx
      clear hx
      gi_wp2_with (gi_at_builtin; refine wpListIn_append_src rfl _ _ 57 rfl B 9 i0 (.string ⟨#[]⟩) 1 16 Tryd.underlying57 hi hz0 hz1 hz2 rfl (by decide) _ _ _ rfl (hrow.alloc _) (some ⟨W.heap.size, 0, none⟩) 1 1 [.string x] rfl (src_text x _) (by unfold maxLen; omega) (by omega) (by simp; omega) ?_; intro v' w1 hown' hgrow hob; obtain ⟨g', cap', rfl⟩ := ownsRow_succ hown'; obtain ⟨hv1, hv2, hr2, hk2, hb2⟩ := hv.appended (by decide) hrow (by omega) (by omega) hown' hgrow; have hc1 := hv1.cell; have hf1 := hv1.frozen)
      have hne' : ∀ b, b < B + 5 → v.ownBlock ≠ some b := fun b hB' e => by have := hg b e; omega
      have kb : ∀ b, b < B + 5 → b ≠ B + 2 → (w1.setCell ⟨B + 2, 0, none⟩ (.slice (some ⟨g', 0, none⟩) (pre.length + 1) cap')).heap[b]? = W.heap[b]? := fun b h1 h2 => block_appended hgrow (by omega) (hne' _ h1) h2
      refine ⟨hk2.from _, ⟨kb _ (by omega) (by omega), kb _ (by omega) (by omega)⟩, ⟨⟨_, hv2, by simpa [tv] using hr2, block_new hg hM hob⟩, hB.trans hb2, Nat.le_trans hM (by have := hb2.size; omega)⟩, ⟨(kb _ (by omega) (by omega)).trans c0, (kb _ (by omega) (by omega)).trans c1⟩, fun y hy => ?_⟩
      rcases List.mem_append.1 hy with h | h
      · exact hne y h
      · simp at h; subst h; exact HX.out
  case done =>
    rintro D ys W hD rfl ⟨⟨⟨v, hv, hrow, hg⟩, hB, hM⟩, ⟨c0, c1⟩, hne⟩ hK
    obtain ⟨a', cap, rfl, hT⟩ := Ts.ofOwn hrow
    have hc := hv.cell
    have q0 := c0.cell
    have p0 := c0.frozen
    have c0' := (c0.set (.slice a' (ps 32 s).length cap)).other (B' := B + 1) (by omega) (.bool true)
    have c1' := (c1.other (B' := B) (by omega) (.slice a' (ps 32 s).length cap)).set (.bool true)
    have q1' := (c1.other (B' := B) (by omega) (.slice a' (ps 32 s).length cap)).cell
    have p1' := (c1.other (B' := B) (by omega) (.slice a' (ps 32 s).length cap)).frozen
    have r2 := (hrow.kept (grownBy_setCell' W B (.slice a' (ps 32 s).length cap)) (.inr (fun e => by have := hg B e; omega))).kept (grownBy_setCell' _ (B + 1) (.bool true)) (.inr (fun e => by have := hg (B + 1) e; omega))
    gi_wp2
    have hK' := ((KeepsOthers.setCell W ⟨B, 0, none⟩ (.slice a' (ps 32 s).length cap)).trans (KeepsOthers.setCell _ ⟨B + 1, 0, none⟩ (.bool true))).same D _ hK rfl
    refine ⟨by simp, .inl ⟨_, _, rfl, run_takeDeferred hK', ?_⟩⟩
    have h0 := cell_kept c0'.cell (grownBy_putObj' _ D (.deferred none)) (fun r e => by cases e; exact ⟨_, hK', rfl⟩)
    have h1 := cell_kept c1'.cell (grownBy_putObj' _ D (.deferred none)) (fun r e => by cases e; exact ⟨_, hK', rfl⟩)
    refine ⟨.tuple #[.slice a' (ps 32 s).length cap, .bool true], ?_, .inl ⟨wgood hne, _, _, _, rfl, Ts.ofOwn' (ownsRow_putObj r2 (.deferred none) hK' rfl)⟩, ?_⟩
    · simp [results, Tryd.f49, go_sem, h0, h1]
    · rw [hBd]
      exact ((hB.setCell (p := ⟨B, 0, none⟩) (Nat.le_refl _) _).setCell (p := ⟨B + 1, 0, none⟩) (by simp) _).trans (belowK_b (w := w) hBle _ D _ _ (by omega) hK' rfl rfl)
  case stop =>
    rintro D c pre W hD hpre ⟨⟨⟨c0, c1⟩, hB⟩, rfl, q, rfl⟩ hK
    gi_wp2
    refine ⟨by simp, .inl ⟨_, _, rfl, run_takeDeferred hK, ?_⟩⟩
    have h0 := cell_kept c0.cell (grownBy_putObj' _ D (.deferred none)) (fun r e => by cases e; exact ⟨_, hK, rfl⟩)
    have h1 := cell_kept c1.cell (grownBy_putObj' _ D (.deferred none)) (fun r e => by cases e; exact ⟨_, hK, rfl⟩)
    refine ⟨.tuple #[.slice none 0 0, .bool false], ?_, .inr ⟨wbad hpre, rfl⟩, by rw [hBd]; exact hB.trans (belowK_b (w := w) hBle W D _ _ (by omega) hK rfl rfl)⟩
    simp [results, Tryd.f49, go_sem, h0, h1]
end Go.Proofs.YtecbmonbeogdjaaDoor

/-
  Walks of the reference's Lines and Words.
-/
namespace Go.Proofs.YtecbmonbeogdjaaDoor
open Go.RowKit
set_option linter.unusedVariables false

theorem last_of {s : ByteArray} {M : Nat} (hz : s.size = M + 1) : ∃ x : UInt8, (by_ s).getLast? = some x ∧ (x.toNat : Int) = bytesF s M := by
  obtain ⟨x, e, hx, hx2⟩ := by_get (s := s) (i := M) (by omega)
  exact ⟨x, by rw [List.getLast?_eq_getElem?, by_length, hz]; exact hx2, hx⟩
theorem ps_by {c : UInt8} {s : ByteArray} {pre : List ByteArray} {x : ByteArray} (h : ps c s = pre ++ [x]) : Ln.pcs c [] (by_ s) = pre.map by_ ++ [by_ x] := by
  have := congrArg (List.map by_) h
  simpa [ps, List.map_map, Function.comp_def, by_mk] using this
theorem map_mk_by (pre : List ByteArray) : (pre.map by_).map mk = pre := by simp [List.map_map, Function.comp_def, mk_by]
theorem lns_ends {s : ByteArray} {pre : List ByteArray} {x : ByteArray} {M : Nat} (h : ps 10 s = pre ++ [x]) (hz : s.size = M + 1) (hl : bytesF s M = 10) : pre = lns s := by
  obtain ⟨y, hy, hy2⟩ := last_of hz
  have : y = 10 := UInt8.toNat_inj.1 (by show y.toNat = 10; omega)
  subst this
  unfold lns
  rw [← Ln.lines_ends (ps_by h) hy, map_mk_by]
theorem lns_goes {s : ByteArray} {pre : List ByteArray} {x : ByteArray} {M : Nat} (h : ps 10 s = pre ++ [x]) (hz : s.size = M + 1) (hl : bytesF s M ≠ 10) : pre ++ [x] = lns s := by
  obtain ⟨y, hy, hy2⟩ := last_of hz
  unfold lns
  rw [← Ln.lines_goes (ps_by h) (fun e => by rw [e] at hy; simp at hy) (by rw [hy]; intro e; cases e; exact hl (by rw [← hy2]; rfl)), List.map_append, map_mk_by]
  simp [mk_by]
theorem lns_none {s : ByteArray} (hz : s.size = 0) : lns s = [] := by
  have : by_ s = [] := List.eq_nil_of_length_eq_zero (by rw [by_length, hz])
  unfold lns Ln.lines
  rw [if_pos this]; rfl


/-- The words of a line, as texts. -/
def wds (s : ByteArray) : List ByteArray := (Ln.words (by_ s)).map mk
theorem wds_good {s : ByteArray} (h : ∀ x ∈ ps 32 s, x ≠ ⟨#[]⟩) : wds s = ps 32 s := by unfold wds ps; rw [show Ln.words (by_ s) = _ from wgood h]
theorem wds_bad {s : ByteArray} {pre r : List ByteArray} (h : ps 32 s = pre ++ ⟨#[]⟩ :: r) : wds s = [] := by
  unfold wds
  rw [wbad (q := pre) ⟨r, by rw [h]; simp⟩]; rfl

end Go.Proofs.YtecbmonbeogdjaaDoor

/-
  Lines and words of a text: how long they are; a line's first two words. Plain mathematics.
-/
namespace Go.Proofs.YtecbmonbeogdjaaDoor.Rk

def w0 (s : ByteArray) : ByteArray := at_ (wds s) 0
def w1 (s : ByteArray) : ByteArray := at_ (wds s) 1

/-! ### How long words are -/
theorem pcs_le (c : UInt8) : ∀ (l acc x : List UInt8), x ∈ Ln.pcs c acc l → x.length ≤ acc.length + l.length
  | [], acc, x, h => by simp [Ln.pcs] at h; subst h; simp
  | b :: r, acc, x, h => by
    unfold Ln.pcs at h
    split at h
    · rcases List.mem_cons.1 h with rfl | h
      · simp
      · have := pcs_le c r [] x h
        simp at this ⊢; omega
    · have := pcs_le c r (acc ++ [b]) x h
      simp at this ⊢; omega
theorem at_mem {xs : List ByteArray} {i : Nat} (h : i < xs.length) : at_ xs i ∈ xs := by
  unfold at_
  rw [List.getD_eq_getElem?_getD, List.getElem?_eq_getElem h]
  exact List.getElem_mem h
theorem ps_le {c : UInt8} {s x : ByteArray} (h : x ∈ ps c s) : x.size ≤ s.size := by
  obtain ⟨y, hy, rfl⟩ := List.mem_map.1 h
  have := pcs_le c (by_ s) [] y hy
  rw [by_length] at this
  rw [mk_size]
  simpa using this
theorem wds_le {s : ByteArray} {i : Nat} : (at_ (wds s) i).size ≤ s.size := by
  by_cases h : i < (wds s).length
  · have hm := at_mem h
    obtain ⟨y, hy, e⟩ := List.mem_map.1 hm
    rw [← e, mk_size]
    unfold Ln.words at hy
    split at hy
    · simp at hy
    · have := pcs_le 32 (by_ s) [] y hy
      rw [by_length] at this
      simpa using this
  · unfold at_
    rw [List.getD_eq_getElem?_getD, List.getElem?_eq_none (by omega)]
    exact Nat.zero_le _
theorem lns_le {s : ByteArray} {i : Nat} : (at_ (lns s) i).size ≤ s.size := by
  by_cases h : i < (lns s).length
  · have hm := at_mem h
    obtain ⟨y, hy, e⟩ := List.mem_map.1 hm
    rw [← e, mk_size]
    unfold Ln.lines at hy
    split at hy
    · simp at hy
    · have h1 := pcs_le 10 _ [] y hy
      have h2 : (Ln.trim (by_ s)).length ≤ (by_ s).length := by
        unfold Ln.trim
        split
        · simp
        · exact Nat.le_refl _
      rw [by_length] at h2
      simp at h1
      omega
  · unfold at_
    rw [List.getD_eq_getElem?_getD, List.getElem?_eq_none (by omega)]
    exact Nat.zero_le _
end Go.Proofs.YtecbmonbeogdjaaDoor.Rk

/-
  Numbers and their digits: plain mathematics, over the kit's numerals.
-/
namespace Go.Proofs.YtecbmonbeogdjaaDoor.Ln
open Go.Lib (decDigits itoa)

/-- What the first k bytes tell, each as a digit. -/
def vF (f : Nat → Int) : Nat → Int
  | 0 => 0
  | k + 1 => 10 * vF f k + (f k - 48)
def Dg (f : Nat → Int) (n : Nat) : Prop := ∀ i, i < n → 48 ≤ f i ∧ f i ≤ 57
/-- The bytes are a number. -/
def Num (f : Nat → Int) (n : Nat) : Prop := 0 < n ∧ n ≤ 7 ∧ ¬ (1 < n ∧ f 0 = 48) ∧ Dg f n
theorem Dg.less {f : Nat → Int} {n k : Nat} (h : Dg f n) (hk : k ≤ n) : Dg f k := fun i hi => h i (by omega)
theorem vF_bd {f : Nat → Int} : ∀ {k : Nat}, Dg f k → 0 ≤ vF f k ∧ vF f k < (10 ^ k : Nat)
  | 0, _ => by simp [vF]
  | k + 1, h => by
    have ih := vF_bd (h.less (Nat.le_succ k))
    have hk := h k (by omega)
    have e : (10 ^ (k + 1) : Nat) = 10 * 10 ^ k := by rw [Nat.pow_succ, Nat.mul_comm]
    rw [e]
    unfold vF
    generalize 10 ^ k = p at *
    omega
theorem vF_bd7 {f : Nat → Int} {k : Nat} (h : Dg f k) (hk : k ≤ 7) : 0 ≤ vF f k ∧ vF f k ≤ 9999999 := by
  have h1 := vF_bd h
  have h2 : 10 ^ k ≤ 10 ^ 7 := Nat.pow_le_pow_right (by decide) hk
  generalize 10 ^ k = p at *
  omega
theorem vF_pos {f : Nat → Int} : ∀ {k : Nat}, Dg f (k + 1) → f 0 ≠ 48 → 1 ≤ vF f (k + 1)
  | 0, h, h0 => by
    have := h 0 (by omega)
    simp [vF]; omega
  | k + 1, h, h0 => by
    have ih := vF_pos (h.less (Nat.le_succ _)) h0
    have hk := h (k + 1) (by omega)
    rw [vF]
    omega

/-- The bytes of a text by places. -/
def gF (l : List UInt8) (i : Nat) : Int := ((l.getD i 0).toNat : Nat)
theorem gF_snoc_lt {l : List UInt8} {b : UInt8} {i : Nat} (h : i < l.length) : gF (l ++ [b]) i = gF l i := by simp [gF, h, List.getElem?_append_left]
theorem gF_snoc_eq (l : List UInt8) (b : UInt8) : gF (l ++ [b]) l.length = b.toNat := by simp [gF]
theorem vF_congr {f g : Nat → Int} : ∀ {k : Nat}, (∀ i, i < k → f i = g i) → vF f k = vF g k
  | 0, _ => rfl
  | k + 1, h => by rw [vF, vF, vF_congr (fun i hi => h i (by omega)), h k (by omega)]
theorem Dg.congr {f g : Nat → Int} {k : Nat} (h : Dg f k) (e : ∀ i, i < k → f i = g i) : Dg g k := fun i hi => by rw [← e i hi]; exact h i hi

theorem byte_dig {d : Nat} (h : d < 10) : (UInt8.ofNat (48 + d)).toNat = 48 + d := by
  rw [UInt8.toNat_ofNat']; omega
theorem dec_small {u : Nat} (h : u < 10) : decDigits u = [UInt8.ofNat (48 + u)] := by rw [decDigits, dif_pos h]
theorem dec_big {u : Nat} (h : ¬ u < 10) : decDigits u = decDigits (u / 10) ++ [UInt8.ofNat (48 + u % 10)] := by rw [decDigits, dif_neg h]
theorem dec_pos (u : Nat) : 0 < (decDigits u).length := by
  by_cases h : u < 10
  · rw [dec_small h]; simp
  · rw [dec_big h]; simp
theorem dec_dg : ∀ (u : Nat), Dg (gF (decDigits u)) (decDigits u).length ∧ vF (gF (decDigits u)) (decDigits u).length = u := by
  intro u
  induction u using Nat.strongRecOn with
  | ind u ih =>
    by_cases h : u < 10
    · rw [dec_small h]
      have e0 : gF [UInt8.ofNat (48 + u)] 0 = 48 + u := by
        show (((UInt8.ofNat (48 + u)).toNat : Nat) : Int) = _
        rw [byte_dig h]; omega
      constructor
      · intro i hi
        obtain rfl : i = 0 := by simpa using hi
        rw [e0]; omega
      · show 10 * 0 + (gF [UInt8.ofNat (48 + u)] 0 - 48) = (u : Int)
        rw [e0]; omega
    · obtain ⟨i1, i2⟩ := ih (u / 10) (by omega)
      have hd : u % 10 < 10 := Nat.mod_lt _ (by decide)
      rw [dec_big h]
      have el : (decDigits (u / 10) ++ [UInt8.ofNat (48 + u % 10)]).length = (decDigits (u / 10)).length + 1 := by simp
      have elast : gF (decDigits (u / 10) ++ [UInt8.ofNat (48 + u % 10)]) (decDigits (u / 10)).length = 48 + (u % 10 : Nat) := by rw [gF_snoc_eq, byte_dig hd]; omega
      rw [el]
      constructor
      · intro i hi
        by_cases e : i < (decDigits (u / 10)).length
        · rw [gF_snoc_lt e]; exact i1 i e
        · obtain rfl : i = (decDigits (u / 10)).length := by omega
          rw [elast]; omega
      · rw [vF, vF_congr (g := gF (decDigits (u / 10))) (fun i hi => gF_snoc_lt hi), i2, elast]
        omega
theorem dec_head : ∀ (u : Nat), ¬ (1 < (decDigits u).length ∧ gF (decDigits u) 0 = 48) := by
  intro u
  induction u using Nat.strongRecOn with
  | ind u ih =>
    by_cases h : u < 10
    · rw [dec_small h]; simp
    · rintro ⟨_, h2⟩
      have hp := dec_pos (u / 10)
      have h3 : gF (decDigits (u / 10)) 0 = 48 := by rw [dec_big h, gF_snoc_lt hp] at h2; exact h2
      by_cases h10 : u / 10 < 10
      · rw [dec_small h10] at h3
        have : (((UInt8.ofNat (48 + u / 10)).toNat : Nat) : Int) = 48 := h3
        rw [byte_dig h10] at this
        omega
      · exact ih (u / 10) (by omega) ⟨by rw [dec_big h10]; have := dec_pos (u / 10 / 10); simp; omega, h3⟩
theorem dec_len : ∀ (k u : Nat), (decDigits u).length ≤ k + 1 ↔ u < 10 ^ (k + 1)
  | 0, u => by
    have e : (10 ^ (0 + 1) : Nat) = 10 := rfl
    rw [e]
    by_cases h : u < 10
    · rw [dec_small h]
      simp; omega
    · have hp := dec_pos (u / 10)
      rw [dec_big h, List.length_append, List.length_singleton]
      omega
  | k + 1, u => by
    have ih := dec_len k (u / 10)
    have e : (10 ^ (k + 1 + 1) : Nat) = 10 * 10 ^ (k + 1) := by rw [Nat.pow_succ, Nat.mul_comm]
    have e0 : 0 < 10 ^ (k + 1) := Nat.pow_pos (by decide)
    rw [e]
    generalize 10 ^ (k + 1) = p at *
    by_cases h : u < 10
    · rw [dec_small h]
      simp; omega
    · have hp := dec_pos (u / 10)
      rw [dec_big h, List.length_append, List.length_singleton]
      omega
/-- Digits of which the first is 0 only if it is the one digit are the numeral of what they tell. -/
theorem dec_of : ∀ (l : List UInt8), l ≠ [] → Dg (gF l) l.length → ¬ (1 < l.length ∧ gF l 0 = 48) → decDigits (vF (gF l) l.length).toNat = l := by
  intro l
  induction hl : l.length generalizing l with
  | zero => intro h0; exact absurd (List.eq_nil_of_length_eq_zero hl) h0
  | succ n ih =>
    intro h0 hd hh
    obtain ⟨r, b, rfl⟩ : ∃ r b, l = r ++ [b] := ⟨_, _, (List.dropLast_concat_getLast h0).symm⟩
    have hr : r.length = n := by simpa using hl
    subst hr
    have hb := hd r.length (by omega)
    rw [gF_snoc_eq] at hb
    have hbd : b = UInt8.ofNat (48 + (b.toNat - 48)) := by apply UInt8.toNat_inj.1; rw [byte_dig (by omega)]; omega
    have hrd : Dg (gF r) r.length := (hd.less (Nat.le_succ _)).congr (fun i hi => gF_snoc_lt hi)
    have hv : vF (gF (r ++ [b])) (r.length + 1) = 10 * vF (gF r) r.length + (b.toNat - 48) := by rw [vF, vF_congr (g := gF r) (fun i hi => gF_snoc_lt hi), gF_snoc_eq]
    rw [hv]
    by_cases hr0 : r = []
    · subst hr0
      simp only [List.length_nil, vF, List.nil_append]
      rw [show (10 * (0 : Int) + ((b.toNat : Int) - 48)).toNat = b.toNat - 48 by omega, dec_small (by omega), ← hbd]
    · obtain ⟨m, hm⟩ : ∃ m, r.length = m + 1 := ⟨r.length - 1, by have := List.length_pos_iff.2 hr0; omega⟩
      have hf0 : gF r 0 ≠ 48 := fun e => hh ⟨by omega, by rw [gF_snoc_lt (by omega)]; exact e⟩
      have h1 : 1 ≤ vF (gF r) r.length := by rw [hm] at hrd ⊢; exact vF_pos hrd hf0
      have hi := ih r rfl hr0 hrd (fun h => hf0 h.2)
      rw [dec_big (by omega), show (10 * vF (gF r) r.length + ((b.toNat : Int) - 48)).toNat / 10 = (vF (gF r) r.length).toNat by omega, hi, show (10 * vF (gF r) r.length + ((b.toNat : Int) - 48)).toNat % 10 = b.toNat - 48 by omega, ← hbd]

/-- Which numerals are numbers. -/
theorem num_dec {u : Nat} (h : u ≤ 9999999) : Num (gF (decDigits u)) (decDigits u).length ∧ vF (gF (decDigits u)) (decDigits u).length = u :=
  ⟨⟨dec_pos u, (dec_len 6 u).2 (by omega), dec_head u, (dec_dg u).1⟩, (dec_dg u).2⟩
theorem num_dec_not {u : Nat} (h : ¬ u ≤ 9999999) : ¬ Num (gF (decDigits u)) (decDigits u).length := fun hn =>
  h (by have := (dec_len 6 u).1 hn.2.1; omega)
theorem num_itoa {n : Int} (h0 : 0 ≤ n) (h1 : n ≤ 9999999) : Num (gF (itoa n)) (itoa n).length ∧ vF (gF (itoa n)) (itoa n).length = n := by
  obtain ⟨u, rfl⟩ := Int.eq_ofNat_of_zero_le h0
  rw [Go.Lib.itoa_nonneg]
  exact num_dec (by omega)
theorem num_itoa_not {n : Int} (h : ¬ (0 ≤ n ∧ n ≤ 9999999)) : ¬ Num (gF (itoa n)) (itoa n).length := by
  by_cases h0 : 0 ≤ n
  · obtain ⟨u, rfl⟩ := Int.eq_ofNat_of_zero_le h0
    rw [Go.Lib.itoa_nonneg]
    exact num_dec_not (by omega)
  · intro hn
    have hd := hn.2.2.2 0 hn.1
    unfold itoa at hd
    rw [if_pos (by omega)] at hd
    simp [gF] at hd
end Go.Proofs.YtecbmonbeogdjaaDoor.Ln

/-
  The walk of line.Number.
-/
namespace Go.Proofs.YtecbmonbeogdjaaDoor
open Go.RowKit
set_option linter.unusedVariables false

/-- What Number answers. -/
def NumOut (f : Nat → Int) (n : Nat) (e : Ending) : Prop :=
  (Ln.Num f n ∧ e = .returned (.tuple #[.int .i64 (Ln.vF f n), .bool true])) ∨ (¬ Ln.Num f n ∧ e = .returned (.tuple #[.int .i64 0, .bool false]))

theorem u8_in {n : Int} (h0 : 0 ≤ n) (h1 : n ≤ 255) : IntKind.u8.wrap n = n := by
  rw [IntKind.wrap_u8]; omega

set_option maxRecDepth 100000 in
set_option maxHeartbeats 3200000 in
theorem number_calls (s : ByteArray) (n : Nat) (f : Nat → Int) (w : World) (hn : n ≤ 100000) (hS : St s n f) :
    Calls Tryd.prog 51 #[.string s] w fun e w' => NumOut f n e ∧ w' = w := by
  have hE0 : n = 0 → s = ⟨#[]⟩ := fun h => by_inj (List.eq_nil_of_length_eq_zero (by rw [by_length, hS.size, h]))
  have hE1 : n ≠ 0 → s ≠ ⟨#[]⟩ := fun h e => h (by rw [← hS.size, e]; rfl)
  obtain ⟨hsz, hget, hbd⟩ := hS
  have HBD := hid hbd
  clear hbd
  by_cases h0 : n = 0
  · have he1 := (empty_yes (hE0 h0)).1
    have he2 := (empty_yes (hE0 h0)).2
    clear hE0 hE1
    go_enter Tryd.func51, Tryd.ntmps51
    go_wp2_with fail
    go_ret2
    exact ⟨.inr ⟨fun h => by have := h.1; omega, rfl⟩, rfl⟩
  have he1 := (empty_no (hE1 h0)).1
  have he2 := (empty_no (hE1 h0)).2
  clear hE0 hE1
  by_cases h7 : 7 < n
  · have k7 : (7 : Int) < n := by omega
    go_enter Tryd.func51, Tryd.ntmps51
    go_wp2_with fail
    go_ret2
    exact ⟨.inr ⟨fun h => by have := h.2.1; omega, rfl⟩, rfl⟩
  have k7 : ¬ (7 : Int) < n := by omega
  by_cases hz : 1 < n ∧ f 0 = 48
  · obtain ⟨hz1, hz2⟩ := hz
    have k1 : (1 : Int) < n := by omega
    have k0 : (0 : Int) < n := by omega
    go_enter Tryd.func51, Tryd.ntmps51
    go_wp2_with fail
    go_ret2
    exact ⟨.inr ⟨fun h => h.2.2.1 ⟨hz1, hz2⟩, rfl⟩, rfl⟩
  have HZ := hid hz
  have hgd : (1 < n ∧ f 0 ≠ 48) ∨ ¬ 1 < n := by
    by_cases h1 : 1 < n
    · exact .inl ⟨h1, fun e => hz ⟨h1, e⟩⟩
    · exact .inr h1
  clear hz
  go_enter Tryd.func51, Tryd.ntmps51
  have k0 : (0 : Int) < n := by omega
  rcases hgd with ⟨h1, h2⟩ | h1
  · have k1 : (1 : Int) < n := by omega
    go_wp2_with fail
    go_loopg [4, 25] n (fun r nv iv wr => ∃ j : Nat, r = n - j ∧ j ≤ n ∧ iv = .int .i64 j ∧ Hid (Ln.Dg f j) ∧ nv = .int .i64 (Ln.vF f j) ∧ wr = w)
    case atStart => exact ⟨0, rfl, by omega, rfl, hid (fun i hi => by omega), rfl, rfl⟩
    case round =>
      obtain ⟨j, rfl, hj, rfl, HD, rfl, rfl⟩ := hrel
      obtain ⟨V, hV⟩ : ∃ V, Ln.vF f j = V := ⟨_, rfl⟩
      have hVb := Ln.vF_bd7 HD.out (by omega)
      rw [hV] at hVb ⊢
      have HV := hid hV
      clear hV
      by_cases hlt : j < n
      · have l0 : (0 : Int) ≤ j := by omega
        have l1 : (j : Int) < n := by omega
        have e2 : IntKind.i64.wrap ((j : Int) + 1) = j + 1 := i64_in (by omega) (by omega)
        have hb := HBD.out j
        by_cases hd : 48 ≤ f j ∧ f j ≤ 57
        · obtain ⟨d1, d2⟩ := hd
          have d1' : ¬ f j < 48 := by omega
          have d2' : ¬ 57 < f j := by omega
          have e3 : IntKind.u8.wrap (f j - 48) = f j - 48 := u8_in (by omega) (by omega)
          have e4 : IntKind.i64.wrap (f j - 48) = f j - 48 := i64_in (by omega) (by omega)
          have e5 : IntKind.i64.wrap (10 * V) = 10 * V := i64_in (by omega) (by omega)
          have e6 : IntKind.i64.wrap (10 * V + (f j - 48)) = 10 * V + (f j - 48) := i64_in (by omega) (by omega)
          go_wp2_with fail
          go_roundg (n - (j + 1))
          case measure => omega
          case rel => exact ⟨j + 1, rfl, by omega, by go_num, hid (fun i hi => by
            by_cases e : i < j
            · exact HD.out i e
            · obtain rfl : i = j := by omega
              exact ⟨d1, d2⟩), by rw [Ln.vF, HV.out], rfl⟩
        · have HND := hid (show ¬ Ln.Num f n from fun h => hd (h.2.2.2 j hlt))
          by_cases d1 : f j < 48
          · go_wp2_with fail
            go_ret2
            exact ⟨.inr ⟨HND.out, rfl⟩, rfl⟩
          · have d2 : 57 < f j := by omega
            go_wp2_with fail
            go_ret2
            exact ⟨.inr ⟨HND.out, rfl⟩, rfl⟩
      · have l1 : ¬ (j : Int) < n := by omega
        obtain rfl : j = n := by omega
        go_wp2_with fail
        go_ret2
        exact ⟨.inl ⟨⟨by omega, by omega, HZ.out, HD.out⟩, by rw [HV.out]; rfl⟩, rfl⟩
  · have k1 : ¬ (1 : Int) < n := by omega
    go_wp2_with fail
    go_loopg [4, 25] n (fun r nv iv wr => ∃ j : Nat, r = n - j ∧ j ≤ n ∧ iv = .int .i64 j ∧ Hid (Ln.Dg f j) ∧ nv = .int .i64 (Ln.vF f j) ∧ wr = w)
    case atStart => exact ⟨0, rfl, by omega, rfl, hid (fun i hi => by omega), rfl, rfl⟩
    case round =>
      obtain ⟨j, rfl, hj, rfl, HD, rfl, rfl⟩ := hrel
      obtain ⟨V, hV⟩ : ∃ V, Ln.vF f j = V := ⟨_, rfl⟩
      have hVb := Ln.vF_bd7 HD.out (by omega)
      rw [hV] at hVb ⊢
      have HV := hid hV
      clear hV
      by_cases hlt : j < n
      · have l0 : (0 : Int) ≤ j := by omega
        have l1 : (j : Int) < n := by omega
        have e2 : IntKind.i64.wrap ((j : Int) + 1) = j + 1 := i64_in (by omega) (by omega)
        have hb := HBD.out j
        by_cases hd : 48 ≤ f j ∧ f j ≤ 57
        · obtain ⟨d1, d2⟩ := hd
          have d1' : ¬ f j < 48 := by omega
          have d2' : ¬ 57 < f j := by omega
          have e3 : IntKind.u8.wrap (f j - 48) = f j - 48 := u8_in (by omega) (by omega)
          have e4 : IntKind.i64.wrap (f j - 48) = f j - 48 := i64_in (by omega) (by omega)
          have e5 : IntKind.i64.wrap (10 * V) = 10 * V := i64_in (by omega) (by omega)
          have e6 : IntKind.i64.wrap (10 * V + (f j - 48)) = 10 * V + (f j - 48) := i64_in (by omega) (by omega)
          go_wp2_with fail
          go_roundg (n - (j + 1))
          case measure => omega
          case rel => exact ⟨j + 1, rfl, by omega, by go_num, hid (fun i hi => by
            by_cases e : i < j
            · exact HD.out i e
            · obtain rfl : i = j := by omega
              exact ⟨d1, d2⟩), by rw [Ln.vF, HV.out], rfl⟩
        · have HND := hid (show ¬ Ln.Num f n from fun h => hd (h.2.2.2 j hlt))
          by_cases d1 : f j < 48
          · go_wp2_with fail
            go_ret2
            exact ⟨.inr ⟨HND.out, rfl⟩, rfl⟩
          · have d2 : 57 < f j := by omega
            go_wp2_with fail
            go_ret2
            exact ⟨.inr ⟨HND.out, rfl⟩, rfl⟩
      · have l1 : ¬ (j : Int) < n := by omega
        obtain rfl : j = n := by omega
        go_wp2_with fail
        go_ret2
        exact ⟨.inl ⟨⟨by omega, by omega, HZ.out, HD.out⟩, by rw [HV.out]; rfl⟩, rfl⟩
end Go.Proofs.YtecbmonbeogdjaaDoor

/-
  Walks of the reference's digits and Digits.
-/
namespace Go.Proofs.YtecbmonbeogdjaaDoor
open Go.RowKit
open Go.Lib (decDigits itoa)
set_option linter.unusedVariables false

def rowB : ByteArray := ⟨#[48, 49, 50, 51, 52, 53, 54, 55, 56, 57]⟩
theorem row_fin : ∀ d : Fin 10, by_ (rowB.extract d.val (d.val + 1)) = [UInt8.ofNat (48 + d.val)] := by decide +kernel
theorem row_at {d : Nat} (h : d < 10) : rowB.extract d (d + 1) = mk [UInt8.ofNat (48 + d)] := by
  apply by_inj
  rw [by_mk]
  exact row_fin ⟨d, h⟩
theorem u64_in {n : Int} (h0 : 0 ≤ n) (h1 : n ≤ 18446744073709551615) : IntKind.u64.wrap n = n := by
  rw [IntKind.wrap_u64]; omega

set_option maxRecDepth 100000 in
set_option maxHeartbeats 3200000 in
theorem rdigits_calls (u : Nat) (hu : u < 18446744073709551616) (w : World) :
    Calls Tryd.prog 32 #[.int .u64 u] w fun e w' => e = .returned (.string (mk (decDigits u))) ∧ w' = w := by
  have hlen : (decDigits u).length ≤ 20 := by rw [Go.Lib.decDigits_length]; exact Go.Lib.nDigits_le20 u hu
  go_enter Tryd.func32, Tryd.ntmps32
  go_wp2_with fail
  go_loopg [0, 4] u (fun r nv sv wr => ∃ (m : Nat) (X : ByteArray), r = m ∧ m ≤ u ∧ nv = .int .u64 m ∧ sv = .string X ∧ X.size ≤ 20 ∧ Hid (∃ acc, X = mk acc ∧ decDigits u = decDigits m ++ acc) ∧ w = wr)
  case atStart => exact ⟨u, ⟨#[]⟩, rfl, Nat.le_refl _, rfl, rfl, by simp [ByteArray.size], hid ⟨[], rfl, by simp⟩, rfl⟩
  case round =>
    obtain ⟨m, X, rfl, hm, rfl, rfl, hXs, HA, rfl⟩ := hrel
    have HE := hid (show ∀ d : Nat, d < 10 → (⟨#[48, 49, 50, 51, 52, 53, 54, 55, 56, 57]⟩ : ByteArray).extract d (d + 1) = mk [UInt8.ofNat (48 + d)] from fun d hd => row_at hd)
    by_cases h9 : 9 < gk
    · have k9 : (9 : Int) < gk := by omega
      have hd10 : gk % 10 < 10 := by omega
      obtain ⟨Y, hY⟩ : ∃ Y, (⟨#[48, 49, 50, 51, 52, 53, 54, 55, 56, 57]⟩ : ByteArray).extract (gk % 10) (gk % 10 + 1) = Y := ⟨_, rfl⟩
      have hYm : Y = mk [UInt8.ofNat (48 + gk % 10)] := by rw [← hY]; exact HE.out _ hd10
      have hYs : Y.size = 1 := by rw [hYm, mk_size]; rfl
      have hcat : ¬ 9223372036854775807 < Y.size + X.size := by omega
      have HN : Hid (∃ acc, Y ++ X = mk acc ∧ decDigits u = decDigits (gk / 10) ++ acc ∧ acc.length ≤ 20) := by
        obtain ⟨acc, h1, h2⟩ := HA.out
        have h3 : decDigits u = decDigits (gk / 10) ++ (UInt8.ofNat (48 + gk % 10) :: acc) := by rw [h2, Ln.dec_big (by omega)]; simp
        refine ⟨UInt8.ofNat (48 + gk % 10) :: acc, by rw [hYm, h1, mk_append]; rfl, h3, ?_⟩
        have := congrArg List.length h3
        simp only [List.length_append] at this
        omega
      have HYm := hid hYm
      clear hYm HA
      go_wp2_with fail
      go_roundg (gk / 10)
      case measure => omega
      case rel => exact ⟨gk / 10, Y ++ X, rfl, by omega, by simp, rfl, by obtain ⟨acc, h1, _, h3⟩ := HN.out; rw [h1, mk_size]; exact h3, hid (by obtain ⟨acc, h1, h2, _⟩ := HN.out; exact ⟨acc, h1, h2⟩), rfl⟩
    · have k9 : ¬ (9 : Int) < gk := by omega
      obtain ⟨Y, hY⟩ : ∃ Y, (⟨#[48, 49, 50, 51, 52, 53, 54, 55, 56, 57]⟩ : ByteArray).extract gk (gk + 1) = Y := ⟨_, rfl⟩
      have hYm : Y = mk [UInt8.ofNat (48 + gk)] := by rw [← hY]; exact HE.out _ (by omega)
      have hYs : Y.size = 1 := by rw [hYm, mk_size]; rfl
      have hcat : ¬ 9223372036854775807 < Y.size + X.size := by omega
      have HN : Hid (Y ++ X = mk (decDigits u)) := by
        obtain ⟨acc, h1, h2⟩ := HA.out
        show Y ++ X = _
        rw [h2, Ln.dec_small (by omega), hYm, h1, mk_append]
      have HYm := hid hYm
      clear hYm HA
      go_wp2_with fail
      go_ret
      exact ⟨by rw [← HN.out]; rfl, rfl⟩

set_option maxRecDepth 100000 in
set_option maxHeartbeats 3200000 in
theorem rDigits_calls (n : Int) (h0 : -9223372036854775808 ≤ n) (h1 : n ≤ 9223372036854775807) (w : World) :
    Calls Tryd.prog 20 #[.int .i64 n] w fun e w' => e = .returned (.string (mk (itoa n))) ∧ w' = w := by
  have hlen := Go.Lib.itoa_length_le n h0 h1
  by_cases hneg : n < 0
  · obtain ⟨u, rfl⟩ : ∃ u : Nat, n = -(u : Int) := ⟨n.natAbs, by omega⟩
    have HI := hid (Go.Lib.itoa_neg u (by omega))
    have e1 : IntKind.i64.wrap (-(u : Int) + 1) = -(u : Int) + 1 := i64_in (by omega) (by omega)
    have e2 : IntKind.i64.wrap (-(-(u : Int) + 1)) = (u : Int) - 1 := by rw [i64_in (by omega) (by omega)]; omega
    have e3 : IntKind.u64.wrap ((u : Int) - 1) = (u : Int) - 1 := u64_in (by omega) (by omega)
    have e4 : IntKind.u64.wrap ((u : Int) - 1 + 1) = (u : Int) := by rw [u64_in (by omega) (by omega)]; omega
    obtain ⟨X, hX⟩ : ∃ X, mk (decDigits u) = X := ⟨_, rfl⟩
    have hXs : X.size ≤ 21 := by
      rw [← hX, mk_size]
      rw [HI.out] at hlen
      simp at hlen
      omega
    have hcat : ¬ 9223372036854775807 < (⟨#[45]⟩ : ByteArray).size + X.size := by
      have : (⟨#[45]⟩ : ByteArray).size = 1 := rfl
      omega
    have HX := hid hX
    have HR := hid (show (⟨#[45]⟩ : ByteArray) ++ X = mk (itoa (-(u : Int))) by rw [HI.out, ← hX]; exact mk_append [45] _)
    clear hX hlen
    go_enter Tryd.func20, Tryd.ntmps20
    go_wp2_with fail
    refine (rdigits_calls u (by omega) _).mono ?_
    rintro e w' ⟨rfl, hw'⟩
    subst hw'
    rw [HX.out]
    go_wp2_with fail
    go_ret
    exact ⟨by rw [← HR.out]; rfl, rfl⟩
  · obtain ⟨u, rfl⟩ : ∃ u : Nat, n = u := ⟨n.toNat, by omega⟩
    have HI := hid (Go.Lib.itoa_nonneg u)
    have e3 : IntKind.u64.wrap (u : Int) = u := u64_in (by omega) (by omega)
    obtain ⟨X, hX⟩ : ∃ X, mk (decDigits u) = X := ⟨_, rfl⟩
    have HX := hid hX
    clear hX hlen
    go_enter Tryd.func20, Tryd.ntmps20
    go_wp2_with fail
    refine (rdigits_calls u (by omega) _).mono ?_
    rintro e w' ⟨rfl, hw'⟩
    subst hw'
    rw [HX.out]
    go_wp2_with fail
    go_ret
    exact ⟨by rw [HI.out, HX.out]; rfl, rfl⟩
end Go.Proofs.YtecbmonbeogdjaaDoor

/-
  The walk of the reference's Number.
-/
namespace Go.Proofs.YtecbmonbeogdjaaDoor
open Go.RowKit
open Go.Lib (decDigits itoa)
set_option linter.unusedVariables false

theorem gF_by {s : ByteArray} {n : Nat} {f : Nat → Int} (hS : St s n f) {i : Nat} (hi : i < n) : Ln.gF (by_ s) i = f i := by
  obtain ⟨x, _, hx, hx2⟩ := by_get (s := s) (i := i) (by rw [hS.size]; exact hi)
  have h2 := (St.any s).get i (by rw [hS.size]; exact hi)
  have h3 := hS.get i (by rw [hS.size]; exact hi)
  unfold Ln.gF
  rw [List.getD_eq_getElem?_getD, hx2]
  show ((x.toNat : Nat) : Int) = f i
  rw [hx, ← h2, h3]
theorem num_text {s : ByteArray} {n : Nat} {f : Nat → Int} (hS : St s n f) (hd : Ln.Dg f n) (h0 : 0 < n) : mk (itoa (Ln.vF f n)) = s ↔ ¬ (1 < n ∧ f 0 = 48) := by
  have hl : (by_ s).length = n := by rw [by_length, hS.size]
  have hv : Ln.vF f n = Ln.vF (Ln.gF (by_ s)) (by_ s).length := by rw [hl]; exact Ln.vF_congr (fun i hi => (gF_by hS hi).symm)
  have hd' : Ln.Dg (Ln.gF (by_ s)) (by_ s).length := by rw [hl]; exact hd.congr (fun i hi => (gF_by hS hi).symm)
  have hi : itoa (Ln.vF f n) = decDigits (Ln.vF f n).toNat := by
    have := (Ln.vF_bd hd).1
    unfold itoa
    rw [if_neg (by omega)]
  rw [hi]
  constructor
  · intro he hz
    have hb : by_ s = decDigits (Ln.vF f n).toNat := by rw [← he, by_mk]
    have := Ln.dec_head (Ln.vF f n).toNat
    rw [← hb, hl, gF_by hS h0] at this
    exact this hz
  · intro hz
    rw [hv, Ln.dec_of (by_ s) (fun e => by rw [e] at hl; simp at hl; omega) hd' (by rw [hl, gF_by hS h0]; exact hz), mk_by]

/-- What the reference's Number answers. -/
def RNum (f : Nat → Int) (n : Nat) (e : Ending) : Prop :=
  (Ln.Num f n ∧ e = .returned (.int .i64 (Ln.vF f n))) ∨ (¬ Ln.Num f n ∧ e = .returned (.int .i64 (-1)))


end Go.Proofs.YtecbmonbeogdjaaDoor
