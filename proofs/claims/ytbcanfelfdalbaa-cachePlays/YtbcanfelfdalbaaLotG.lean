/-
  Several texts in one: Base, Own, App, Sl, St, Sb, SlX, PrIt, Ir, Rs, OpenRs, MutF, Cpy, Cvb.
-/
import Derived.WalkKit
import Derived.WalkSpells
import Derived.WalkLawsBesides
import Derived.Deep.AppendLies
import Derived.Deep.Onto
import Derived.Laws.AppendOwnNone
import Derived.Maps.AppendAt
import Derived.RegionTactic
import Derived.OpenShut
import Derived.Laws.CopyOwn
import Derived.Deep.Strs
import Derived.Lib.SmallJoins
import Derived.WalkSmall
import Derived.Lib.ConvBytes
/-
  Small helpers that every walk uses. No program is named here.
-/
namespace Go.Proofs.Ytbcanfelfdalbaa
open Go.RowKit

theorem hid {p : Prop} (h : p) : Hid p := h
theorem ret_int {k : IntKind} {a b : Int} (h : a = b) : Ending.returned (.int k a) = .returned (.int k b) := by rw [h]
theorem ret_bool {a b : Bool} (h : a = b) : Ending.returned (.bool a) = .returned (.bool b) := by rw [h]
/-- All old cells and old marks read as before. -/
theorem bcell {W w1 : World} (hb : Below W.heap.size W w1) : (∀ b o, b < W.heap.size → w1.cell? ⟨b, o, none⟩ = W.cell? ⟨b, o, none⟩) ∧ (∀ b o, b < W.heap.size → w1.frozen? ⟨b, o, none⟩ = W.frozen? ⟨b, o, none⟩) :=
  ⟨fun b o h => hb.cell (p := ⟨b, o, none⟩) h, fun b o h => hb.frozen (p := ⟨b, o, none⟩) h⟩
theorem i64_in {n : Int} (h0 : -9223372036854775808 ≤ n) (h1 : n ≤ 9223372036854775807) : IntKind.i64.wrap n = n := by rw [IntKind.wrap_i64]; omega
end Go.Proofs.Ytbcanfelfdalbaa

/-
  Rows of a call's own, carried over calls that leave old memory alone. No program is named here.
-/
namespace Go.Proofs.Ytbcanfelfdalbaa
open Go.RowKit

theorem own_below {w w' : World} {base : Nat} {e : TypeId} {size : Nat} {v : Value} {n : Nat} {xs : List Value} (h : w.ownsRow base e size v n xs) (hb : Below w.heap.size w w') : w'.ownsRow base e size v n xs := by
  refine ⟨h.1, ?_⟩
  rcases h.2 with hn | ⟨g, cap, cur, hv, hB, hg, rest⟩
  · exact .inl hn
  · refine .inr ⟨g, cap, cur, hv, hB, ?_, rest⟩
    rw [hb.block g (Array.getElem?_eq_some_iff.1 hg).1]
    exact hg
end Go.Proofs.Ytbcanfelfdalbaa

/-
  'append(own, x...)' for whatever slice x: nil, empty or not: one law for the plain walk and one for a region that draws its order. No program is named here.
-/
namespace Go.Proofs.Ytbcanfelfdalbaa
open Go.RowKit

/-- What is appended: m elements of 'size' cells each, whose values are 'news'. -/
structure Src (w : World) (ao : Option Addr) (m c size : Nat) (news : List Value) : Prop where
  len : news.length = m * size
  one : ∀ u ∈ news, u.oneCell' = true
  nil : ao = none → m = 0 ∧ c = 0
  cells : ∀ ad, ao = some ad → ∀ j u, news[j]? = some u → w.cell? (ad.add j) = some u

section
variable {P : Program} {w : World}
theorem run_append_src (base : Nat) (t ty e : TypeId) (i : TypeInfo) (z : Value) (size bytes : Nat) (ht : P.underlying t = some (.slice e)) (hi : P.info? e = some i) (hz : i.zero = some z)
    (hsize : i.size = size) (hby : i.bytes = bytes) (hzs : z.cells.size = size) (hsz : 0 < size)
    (v : Value) (n : Nat) (xs : List Value) (hown : w.ownsRow base e size v n xs) (ao : Option Addr) (m c : Nat) (news : List Value) (hsrc : Src w ao m c size news)
    (h63 : n + m ≤ maxLen) (hbytes : (n + m) * bytes ≤ 140737488355328) (hbase : base ≤ w.heap.size) :
    ∃ v' w', (Builtin.append_ #[t, t] ty #[v, .slice ao m c]).run P w = .ok v' w' ∧ w'.ownsRow base e size v' (n + m) (xs ++ news) ∧ w.grownBy w' v.ownBlock ∧ (v'.ownBlock = v.ownBlock ∨ v'.ownBlock = some w.heap.size) := by
  cases ao with
  | none =>
    obtain ⟨rfl, rfl⟩ := hsrc.nil rfl
    have hn : news = [] := List.eq_nil_of_length_eq_zero (by simpa using hsrc.len)
    subst hn
    refine ⟨v, w, run_append_owned_none (P := P) (w := w) base t ty e i size ht hi v n xs hown, ?_, World.grownBy.refl _ _, Or.inl rfl⟩
    rw [Nat.add_zero, List.append_nil]
    exact hown
  | some ad =>
    obtain ⟨v', w', hr, h2, h3, _, h5⟩ := run_append_own_at (P := P) w base t ty e i z size bytes ht hi hz hsize hby hzs hsz v n xs hown ad m c news hsrc.len (hsrc.cells ad rfl) hsrc.one h63 hbytes hbase
    exact ⟨v', w', hr, h2, h3, h5⟩

theorem wp_append_src {o : Oper} {a : Act} {K : Act → World → Prop} {Q : Exit → Act → World → Prop} (s x : Operand) (t : TypeId)
    (ho : o.op = .call { callee := .builtin .append, args := #[s, x], argTypes := #[t, t] })
    (base : Nat) (e : TypeId) (i : TypeInfo) (z : Value) (size bytes : Nat) (ht : P.underlying t = some (.slice e)) (hi : P.info? e = some i) (hz : i.zero = some z)
    (hsize : i.size = size) (hby : i.bytes = bytes) (hzs : z.cells.size = size) (hsz : 0 < size)
    (v : Value) (n : Nat) (xs : List Value) (hs : a.eval s = v) (hown : w.ownsRow base e size v n xs) (ao : Option Addr) (m c : Nat) (news : List Value) (hx : a.eval x = .slice ao m c) (hsrc : Src w ao m c size news)
    (h63 : n + m ≤ maxLen) (hbytes : (n + m) * bytes ≤ 140737488355328) (hbase : base ≤ w.heap.size)
    (h : ∀ v' w', w'.ownsRow base e size v' (n + m) (xs ++ news) → w.grownBy w' v.ownBlock → (v'.ownBlock = v.ownBlock ∨ v'.ownBlock = some w.heap.size) → K (a.put o.dst v') w') : o.wp P a w K Q := by
  obtain ⟨v', w', hr, h2, h3, h4⟩ := run_append_src (P := P) (w := w) base t o.type e i z size bytes ht hi hz hsize hby hzs hsz v n xs hown ao m c news hsrc h63 hbytes hbase
  unfold Oper.wp execOp
  simp only [ho, resolve, invoke, builtin, Sem.run_bind, Sem.run_pure, Result.andThen_ok, List.map_toArray, List.map_cons, List.map_nil, hs, hx, hr]
  exact h v' w' h2 h3 h4

theorem wpList_append_src {ops : Array Oper} {rest : List Oper} {o : Oper} {a : Act} {Q : Exit → Act → World → Prop} (hgd : o.guard = none) (s x : Operand) (t : TypeId)
    (ho : o.op = .call { callee := .builtin .append, args := #[s, x], argTypes := #[t, t] })
    (base : Nat) (e : TypeId) (i : TypeInfo) (z : Value) (size bytes : Nat) (ht : P.underlying t = some (.slice e)) (hi : P.info? e = some i) (hz : i.zero = some z)
    (hsize : i.size = size) (hby : i.bytes = bytes) (hzs : z.cells.size = size) (hsz : 0 < size)
    (v : Value) (n : Nat) (xs : List Value) (hs : a.eval s = v) (hown : w.ownsRow base e size v n xs) (ao : Option Addr) (m c : Nat) (news : List Value) (hx : a.eval x = .slice ao m c) (hsrc : Src w ao m c size news)
    (h63 : n + m ≤ maxLen) (hbytes : (n + m) * bytes ≤ 140737488355328) (hbase : base ≤ w.heap.size)
    (h : ∀ v' w', w'.ownsRow base e size v' (n + m) (xs ++ news) → w.grownBy w' v.ownBlock → (v'.ownBlock = v.ownBlock ∨ v'.ownBlock = some w.heap.size) → wpList P ops Q rest (a.put o.dst v') w') : wpList P ops Q (o :: rest) a w :=
  wpList_plain hgd fun _ hK => wp_append_src s x t ho base e i z size bytes ht hi hz hsize hby hzs hsz v n xs hs hown ao m c news hx hsrc h63 hbytes hbase fun v' w' h2 h3 h4 => hK _ _ (h v' w' h2 h3 h4)

theorem step_append_src {ops : Array Oper} {o : Oper} {a : Act} {K : Act → World → Prop} {Q : Exit → Act → World → Prop} {E : Prop} (hgd : o.guard = none) (s x : Operand) (t : TypeId)
    (ho : o.op = .call { callee := .builtin .append, args := #[s, x], argTypes := #[t, t] })
    (base : Nat) (e : TypeId) (i : TypeInfo) (z : Value) (size bytes : Nat) (ht : P.underlying t = some (.slice e)) (hi : P.info? e = some i) (hz : i.zero = some z)
    (hsize : i.size = size) (hby : i.bytes = bytes) (hzs : z.cells.size = size) (hsz : 0 < size)
    (v : Value) (n : Nat) (xs : List Value) (hs : a.eval s = v) (hown : w.ownsRow base e size v n xs) (ao : Option Addr) (m c : Nat) (news : List Value) (hx : a.eval x = .slice ao m c) (hsrc : Src w ao m c size news)
    (h63 : n + m ≤ maxLen) (hbytes : (n + m) * bytes ≤ 140737488355328) (hbase : base ≤ w.heap.size)
    (h : ∀ v' w', w'.ownsRow base e size v' (n + m) (xs ++ news) → w.grownBy w' v.ownBlock → (v'.ownBlock = v.ownBlock ∨ v'.ownBlock = some w.heap.size) → K (a.put o.dst v') w') :
    if Region.wanted o (yielded ops a.tmps) = true then Oper.wp P o a w K Q else E := by
  have hw : Region.wanted o (yielded ops a.tmps) = true := by simp [Region.wanted, hgd]
  rw [if_pos hw]
  exact wp_append_src s x t ho base e i z size bytes ht hi hz hsize hby hzs hsz v n xs hs hown ao m c news hx hsrc h63 hbytes hbase h
end

theorem Src.below {w w' : World} {ao : Option Addr} {m c size : Nat} {news : List Value} (h : Src w ao m c size news) (hb : Below w.heap.size w w') : Src w' ao m c size news :=
  ⟨h.len, h.one, h.nil, fun ad ha j u hu => by
    have hc := h.cells ad ha j u hu
    rw [hb.cell (World.block_lt_of_cell? _ _ hc)]; exact hc⟩
/-- A block that is known whole, as what is appended. -/
theorem Src.block {w : World} {B m size : Nat} {cs : Array Value} {t : TypeId} {fr : Nat × Nat} (hb : w.heap[B]? = some (.cells cs t fr)) (hl : cs.size = m * size) (h1 : ∀ u ∈ cs.toList, u.oneCell' = true) : Src w (some ⟨B, 0, none⟩) m m size cs.toList :=
  ⟨by simpa using hl, h1, fun e => absurd e (by simp), fun ad ha j u hu => by cases ha; exact World.news_of_block hb j u hu⟩
theorem Src.grown {w w' : World} {ad : Addr} {m c size : Nat} {news : List Value} {row : Option Nat} (h : Src w (some ad) m c size news) (hg : w.grownBy w' row) (hne : some ad.block ≠ row) : Src w' (some ad) m c size news :=
  ⟨h.len, h.one, h.nil, fun ad' ha j u hu => by
    cases ha
    have hc := h.cells ad rfl j u hu
    exact hg.cell hc (by unfold Addr.add; split <;> exact hne)⟩
/-- A new, empty row of the call's own, its block said by another term. -/
theorem own_empty {w : World} {base : Nat} {e : TypeId} {size : Nat} (b : Nat) (hb : b = w.heap.size) (h : base ≤ w.heap.size) : (w.alloc (.cells #[] e)).ownsRow base e size (.slice (some ⟨b, 0, none⟩) 0 0) 0 [] := by
  subst hb
  exact World.ownsRow_lit w #[] 0 h (by decide) (by simp)
/-- A new block, as what is appended, its number said by another term. -/
theorem Src.new {w : World} {m size : Nat} (cs : Array Value) (t : TypeId) (b : Nat) (hb : b = w.heap.size) (hl : cs.size = m * size) (h1 : ∀ u ∈ cs.toList, u.oneCell' = true) : Src (w.alloc (.cells cs t)) (some ⟨b, 0, none⟩) m m size cs.toList := by
  subst hb
  exact Src.block (heap_alloc_new w _) hl h1
end Go.Proofs.Ytbcanfelfdalbaa

/-
  Slices of bytes told by a function (f i: the byte at place i), and what an append to a row of the call's own makes of them. No program is named here.
-/
namespace Go.Proofs.Ytbcanfelfdalbaa
open Go.RowKit

/-- A slice of bytes: nil, or it leads to cells that hold what f tells. -/
structure Sl (w : World) (a : Option Addr) (n cap : Nat) (f : Nat → Int) : Prop where
  le : n ≤ cap
  mx : cap ≤ maxLen
  bd : ∀ i, 0 ≤ f i ∧ f i ≤ 255
  nil : a = none → n = 0 ∧ cap = 0
  at' : 0 < n → ∃ b off, a = some ⟨b, off, none⟩ ∧ b < w.heap.size ∧ ∀ i, i < n → w.cell? ⟨b, off + i, none⟩ = some (.int .u8 (f i))

theorem Sl.below {w w' : World} {a : Option Addr} {n cap : Nat} {f : Nat → Int} (h : Sl w a n cap f) (hb : Below w.heap.size w w') : Sl w' a n cap f :=
  ⟨h.le, h.mx, h.bd, h.nil, fun hn => by
    obtain ⟨b, off, rfl, hlt, hc⟩ := h.at' hn
    exact ⟨b, off, rfl, Nat.lt_of_lt_of_le hlt hb.size, fun i hi => by rw [hb.cell (p := ⟨b, off + i, none⟩) hlt]; exact hc i hi⟩⟩

/-- The values of n bytes. -/
def vals (f : Nat → Int) (n : Nat) : List Value := (List.range n).map fun i => .int .u8 (f i)
theorem vals_length (f : Nat → Int) (n : Nat) : (vals f n).length = n := by simp [vals]
theorem vals_get (f : Nat → Int) (n i : Nat) (h : i < n) : (vals f n)[i]? = some (.int .u8 (f i)) := by simp [vals, h]
theorem vals_get_inv {f : Nat → Int} {n i : Nat} {u : Value} (h : (vals f n)[i]? = some u) : i < n ∧ u = .int .u8 (f i) := by
  have hi : i < n := by
    have := (List.getElem?_eq_some_iff.1 h).1
    rwa [vals_length] at this
  rw [vals_get f n i hi] at h
  exact ⟨hi, (Option.some.inj h).symm⟩
theorem vals_one (f : Nat → Int) (n : Nat) : ∀ u ∈ vals f n, u.oneCell' = true := by
  intro u hu
  simp only [vals, List.mem_map] at hu
  obtain ⟨i, _, rfl⟩ := hu
  rfl
/-- Bytes behind others. -/
def cat (f : Nat → Int) (n : Nat) (g : Nat → Int) : Nat → Int := fun i => if i < n then f i else g (i - n)
theorem cat_lt {f g : Nat → Int} {n i : Nat} (h : i < n) : cat f n g i = f i := by simp [cat, h]
theorem cat_ge {f g : Nat → Int} {n i : Nat} (h : n ≤ i) : cat f n g i = g (i - n) := by unfold cat; rw [if_neg (by omega)]
theorem cat_bd {f g : Nat → Int} {n : Nat} (hf : ∀ i, 0 ≤ f i ∧ f i ≤ 255) (hg : ∀ i, 0 ≤ g i ∧ g i ≤ 255) (i : Nat) : 0 ≤ cat f n g i ∧ cat f n g i ≤ 255 := by
  unfold cat; split
  · exact hf i
  · exact hg _
theorem cat_zero (f g : Nat → Int) : cat f 0 g = g := by funext i; simp [cat]
theorem vals_cat (f g : Nat → Int) (n m : Nat) : vals f n ++ vals g m = vals (cat f n g) (n + m) := by
  apply List.ext_getElem?
  intro i
  by_cases h : i < n
  · rw [List.getElem?_append_left (by rw [vals_length]; exact h), vals_get _ _ _ h, vals_get _ _ _ (by omega), cat_lt h]
  · rw [List.getElem?_append_right (by rw [vals_length]; omega), vals_length]
    by_cases h2 : i < n + m
    · rw [vals_get _ _ _ (by omega), vals_get _ _ _ h2, cat_ge (by omega)]
    · rw [List.getElem?_eq_none (by rw [vals_length]; omega), List.getElem?_eq_none (by rw [vals_length]; omega)]
theorem vals_congr {f g : Nat → Int} {n : Nat} (h : ∀ i, i < n → f i = g i) : vals f n = vals g n := by
  unfold vals
  apply List.map_congr_left
  intro i hi
  rw [h i (by simpa using hi)]

/-- A row of the call's own, as a slice. -/
theorem Sl.own {w : World} {base : Nat} {e : TypeId} {v : Value} {n : Nat} {f : Nat → Int} (h : w.ownsRow base e 1 v n (vals f n)) (hf : ∀ i, 0 ≤ f i ∧ f i ≤ 255) :
    ∃ a cap, v = .slice a n cap ∧ Sl w a n cap f := by
  obtain ⟨hl, h⟩ := h
  rcases h with ⟨rfl, rfl⟩ | ⟨g, cap, cur, rfl, hb, hg, hn, hm, hs, ht⟩
  · exact ⟨none, 0, rfl, ⟨Nat.le_refl _, Nat.zero_le _, hf, fun _ => ⟨rfl, rfl⟩, fun h => absurd h (by omega)⟩⟩
  · refine ⟨_, cap, rfl, ⟨hn, hm, hf, fun h => absurd h (by simp), fun h0 => ⟨g, 0, rfl, ?_, fun i hi => ?_⟩⟩⟩
    · have := (Array.getElem?_eq_some_iff.1 hg).1
      exact this
    · have e1 : (cur.toList.take (n * 1))[i]? = some (.int .u8 (f i)) := by rw [ht]; exact vals_get f n i hi
      rw [List.getElem?_take_of_lt (by omega)] at e1
      have e2 : cur[i]? = some (.int .u8 (f i)) := by simpa using e1
      simp [World.cell?, hg, e2]

/-- 'append(own, x...)' for whatever slice of bytes x. -/
theorem wpList_append_sl {P : Program} {w : World} {ops : Array Oper} {rest : List Oper} {o : Oper} {a : Act} {Q : Exit → Act → World → Prop} (hgd : o.guard = none) (s x : Operand) (t : TypeId)
    (ho : o.op = .call { callee := .builtin .append, args := #[s, x], argTypes := #[t, t] })
    (base : Nat) (e : TypeId) (i : TypeInfo) (ht : P.underlying t = some (.slice e)) (hi : P.info? e = some i) (hz : i.zero = some (.int .u8 0)) (hsize : i.size = 1) (hby : i.bytes = 1)
    (v : Value) (n : Nat) (f : Nat → Int) (hs : a.eval s = v) (hown : w.ownsRow base e 1 v n (vals f n))
    (ao : Option Addr) (m c : Nat) (g : Nat → Int) (hx : a.eval x = .slice ao m c) (hsl : Sl w ao m c g) (h63 : n + m ≤ 140737488355328) (hbase : base ≤ w.heap.size)
    (h : ∀ v' w', w'.ownsRow base e 1 v' (n + m) (vals (cat f n g) (n + m)) → w.grownBy w' v.ownBlock → wpList P ops Q rest (a.put o.dst v') w') : wpList P ops Q (o :: rest) a w := by
  cases ao with
  | none =>
    obtain ⟨rfl, rfl⟩ := hsl.nil rfl
    refine wpList_append_own_none hgd s x t ho base e i 1 ht hi v n (vals f n) hs hown hx ?_
    refine h v w ?_ (World.grownBy.refl _ _)
    rw [Nat.add_zero, vals_congr (g := f) (fun i hi => cat_lt hi)]
    exact hown
  | some ad =>
    refine wpList_append_own (w := w) hgd s x t ho base e i (.int .u8 0) 1 1 ht hi hz hsize hby rfl (by omega) v n (vals f n) hs hown ad m c (vals g m) hx (by rw [vals_length, Nat.mul_one]) ?_ (vals_one g m) (by unfold maxLen; omega) (by omega) hbase ?_
    · intro j u hj
      obtain ⟨hlt, rfl⟩ := vals_get_inv hj
      obtain ⟨b, off, hab, _, hc⟩ := hsl.at' (by omega)
      cases hab
      rw [Addr.add_lit]; exact hc j hlt
    · intro v' w' h1 h2 _
      rw [vals_cat] at h1
      exact h v' w' h1 h2

end Go.Proofs.Ytbcanfelfdalbaa

/-
  Strings told by a function (f i: the byte at place i). No program is named here.
-/
namespace Go.Proofs.Ytbcanfelfdalbaa
open Go.RowKit

/-- A string of n bytes that f tells. -/
structure St (s : ByteArray) (n : Nat) (f : Nat → Int) : Prop where
  size : s.size = n
  get : ∀ i (h : i < s.size), ((s[i]'h).toNat : Int) = f i
  bd : ∀ i, 0 ≤ f i ∧ f i ≤ 255

def str (f : Nat → Int) (n : Nat) : ByteArray := strOfNums ((List.range n).map f)
theorem str_size (f : Nat → Int) (n : Nat) : (str f n).size = n := by simp [str, strOfNums_size]
theorem St.of {f : Nat → Int} (hf : ∀ i, 0 ≤ f i ∧ f i ≤ 255) (n : Nat) : St (str f n) n f := by
  refine ⟨str_size f n, fun i h => ?_, hf⟩
  rw [str_size] at h
  show (((strOfNums ((List.range n).map f)).data[i]'(by simpa [strOfNums] using h)).toNat : Int) = f i
  have := hf i
  simp [strOfNums]
  omega
theorem St.inj {s t : ByteArray} {n : Nat} {f : Nat → Int} (hs : St s n f) (ht : St t n f) : s = t := by
  have e1 := hs.size
  have e2 := ht.size
  apply ByteArray.ext
  apply Array.ext
  · show s.size = t.size
    omega
  · intro i h1 h2
    have a := hs.get i h1
    have b := ht.get i h2
    have c : (s[i]'h1).toNat = (t[i]'h2).toNat := by omega
    exact UInt8.toNat_inj.1 c
theorem St.eq_str {s : ByteArray} {n : Nat} {f : Nat → Int} (hs : St s n f) : s = str f n := hs.inj (St.of hs.bd n)
theorem St.congr {s : ByteArray} {n : Nat} {f g : Nat → Int} (hs : St s n f) (hg : ∀ i, 0 ≤ g i ∧ g i ≤ 255) (h : ∀ i, i < n → f i = g i) : St s n g :=
  ⟨hs.size, fun i hi => by rw [hs.get i hi]; exact h i (by rw [← hs.size]; exact hi), hg⟩
theorem str_congr {f g : Nat → Int} {n : Nat} (h : ∀ i, i < n → f i = g i) : str f n = str g n := by
  unfold str
  rw [List.map_congr_left (g := g) (fun i hi => h i (by simpa using hi))]
/-- Two strings that are one have the same bytes. -/
theorem St.same {s : ByteArray} {n m : Nat} {f g : Nat → Int} (hs : St s n f) (ht : St s m g) : n = m ∧ ∀ i, i < n → f i = g i :=
  ⟨by rw [← hs.size, ← ht.size], fun i hi => by
    have h : i < s.size := by rw [hs.size]; exact hi
    rw [← hs.get i h, ← ht.get i h]⟩
theorem St.extract {s : ByteArray} {n : Nat} {f : Nat → Int} (hs : St s n f) (i j : Nat) (hij : i ≤ j) (hj : j ≤ n) : St (s.extract i j) (j - i) (fun k => f (i + k)) := by
  have e := hs.size
  have hz : (s.extract i j).size = j - i := by rw [ByteArray.size_extract]; omega
  refine ⟨hz, fun k hk => ?_, fun k => hs.bd _⟩
  have := hs.get (i + k) (by omega)
  rw [← this, ByteArray.getElem_extract]
theorem St.append {s t : ByteArray} {n m : Nat} {f g : Nat → Int} (hs : St s n f) (ht : St t m g) : St (s ++ t) (n + m) (cat f n g) := by
  have e1 := hs.size
  have e2 := ht.size
  refine ⟨by rw [ByteArray.size_append]; omega, fun i h => ?_, cat_bd hs.bd ht.bd⟩
  by_cases hi : i < n
  · rw [cat_lt hi, ByteArray.getElem_append_left (by omega)]
    exact hs.get i (by omega)
  · rw [cat_ge (by omega), ByteArray.getElem_append_right (by omega)]
    rw [ByteArray.size_append] at h
    have := ht.get (i - n) (by omega)
    rw [← this]
    simp only [e1]

theorem toList_inj {a b : ByteArray} (h : a.toList = b.toList) : a = b := by
  rw [ByteArray.toList_eq, ByteArray.toList_eq] at h
  exact ByteArray.ext (Array.ext' h)
theorem St.beq_iff {a b : ByteArray} {n m : Nat} {f g : Nat → Int} (ha : St a n f) (hb : St b m g) : (a.toList == b.toList) = true ↔ n = m ∧ ∀ i, i < n → f i = g i := by
  rw [beq_iff_eq]
  constructor
  · intro h
    have e := toList_inj h
    subst e
    exact ha.same hb
  · rintro ⟨rfl, h⟩
    rw [(ha.congr hb.bd h).inj hb]
theorem St.beq_no {a b : ByteArray} {n m : Nat} {f g : Nat → Int} (ha : St a n f) (hb : St b m g) (h : ¬ (n = m ∧ ∀ i, i < n → f i = g i)) : (a.toList == b.toList) = false := by
  rw [← ha.beq_iff hb] at h
  simpa using h
/-- A slice of bytes as a string. -/
theorem run_convert_sl {P : Program} (w : World) (src e dst : TypeId) (hs : P.underlying src = some (.slice e)) (he : P.underlying e = some (.int .u8)) (hd : P.underlying dst = some .string) {a : Option Addr} {n cap : Nat} {f : Nat → Int} (h : Sl w a n cap f) :
    (convert src dst (.slice a n cap)).run P w = .ok (.string (str f n)) w := by
  by_cases hn : n = 0
  · subst hn
    cases a with
    | none => exact run_convert_bytes_nil w src e hs he 0 cap dst hd
    | some x =>
      rw [run_convert_bytes_string w src dst e _ 0 cap hs he hd, run_bytesToString w x 0 cap [] (by simpa using run_loadCells_list (P := P) w x [] (fun j v hj => by simp at hj))]
      rfl
  · obtain ⟨b, off, rfl, _, hc⟩ := h.at' (by omega)
    refine run_convert_bytes_arg w src e hs he b off n cap ((List.range n).map f) (by simp) (fun i hi => ?_) dst hd
    rw [hc i hi]
    simp [hi]
theorem range_getD (l : List Int) : (List.range l.length).map (fun i => l.getD i 0) = l := by
  apply List.ext_getElem
  · simp
  · intro i h1 h2
    simp [h2]
theorem str_list (l : List Int) (f : Nat → Int) (n : Nat) (hn : l.length = n) (hf : ∀ i, i < n → f i = l.getD i 0) : str f n = strOfNums l := by
  subst hn
  rw [str_congr hf]
  unfold str
  rw [range_getD]
/-- Bytes that were just laid, as a string. -/
theorem run_convert_new {P : Program} (w : World) (src e dst : TypeId) (hs : P.underlying src = some (.slice e)) (he : P.underlying e = some (.int .u8)) (hd : P.underlying dst = some .string) (l : List Int) (n : Nat) (hn : l.length = n) (t : TypeId) :
    (convert src dst (.slice (some ⟨w.heap.size, 0, none⟩) n n)).run P (w.alloc (.cells (l.map (Value.int .u8)).toArray t)) = .ok (.string (strOfNums l)) (w.alloc (.cells (l.map (Value.int .u8)).toArray t)) := by
  refine run_convert_bytes_arg _ src e hs he _ 0 n n l hn (fun i hi => ?_) dst hd
  rw [World.cell?_alloc_new]
  have h : i < l.length := by omega
  simp [h]
end Go.Proofs.Ytbcanfelfdalbaa

/-
  Any string, told by its bytes; what came in as a slice of bytes, opened. No program is named here.
-/
namespace Go.Proofs.Ytbcanfelfdalbaa
open Go.RowKit

def bytesF (s : ByteArray) (i : Nat) : Int := ((s.data.getD i 0).toNat : Nat)
theorem St.any (s : ByteArray) : St s s.size (bytesF s) := by
  refine ⟨rfl, fun i h => ?_, fun i => ?_⟩
  · unfold bytesF
    rw [show s.data.getD i 0 = s.data[i]'h by unfold Array.getD; rw [dif_pos (show i < s.data.size from h)]; rfl]
    rfl
  · unfold bytesF
    have := (s.data.getD i 0).toNat_lt
    omega

section
open Go.ChangeShapes Go.WideShapes
variable {H0 : Type} {enc : TypeId × Value → H0} {P : Program} {w : World} {base : Nat} {spare : Nat → Bool} {held : Bool}

theorem open_sl {r : Reach} {b0 : Nat} {t e : TypeId} {v : Value} {d : DataW H0} {p : List MemPlace} (ht : P.underlying t = some (.slice e)) (he : P.underlying e = some (.int .u8)) (hc : P.cellsOf e = 1)
    (hv : Value.okWide P w r b0 t v) (h : DataW.Trod enc P w base spare held t v d p) : ∃ a n c f, v = .slice a n c ∧ Sl w a n c f := by
  obtain ⟨a, n, c, rfl⟩ := okWide_slice ht hv
  obtain ⟨fuel, hf⟩ := h
  rcases open_ints ht he hc hf with ⟨hcs, _⟩ | ⟨x, l, k, zs, hcs, _, hl, hm, hz, _, hcell, hwz⟩
  · simp [Value.cells] at hcs
    obtain ⟨rfl, rfl, rfl⟩ := hcs
    exact ⟨none, 0, 0, fun _ => 0, rfl, Nat.le_refl _, Nat.zero_le _, fun i => by simp, fun _ => ⟨rfl, rfl⟩, fun h => absurd h (by omega)⟩
  · simp [Value.cells] at hcs
    obtain ⟨rfl, rfl, rfl⟩ := hcs
    have hln : n ≤ zs.length := by rw [hz]; split <;> omega
    refine ⟨some x, n, c, fun i => zs.getD i 0, rfl, hl, hm, fun i => ?_, fun h => absurd h (by simp), fun h0 => ?_⟩
    · by_cases hi : i < zs.length
      · have hw := hwz (zs.getD i 0) (by rw [List.getD_eq_getElem?_getD, List.getElem?_eq_getElem hi]; exact List.getElem_mem hi)
        simp [Lit.wf, IntKind.min, IntKind.max, IntKind.signed, IntKind.bits] at hw
        simpa using hw
      · rw [List.getD_eq_getElem?_getD, List.getElem?_eq_none (by omega)]; simp
    · obtain ⟨b, off, spot⟩ := x
      have hs : spot = none := by
        have := World.cell?_spot (hcell 0 (by omega))
        simpa [Addr.add] using this
      subst hs
      have hc : ∀ i, i < n → w.cell? ⟨b, off + i, none⟩ = some (.int .u8 (zs.getD i 0)) := fun i hi => by
        have := hcell i (by omega)
        rwa [Addr.add_lit] at this
      exact ⟨b, off, rfl, World.block_lt_of_cell? _ _ (hc 0 h0), hc⟩
end
end Go.Proofs.Ytbcanfelfdalbaa

/-
  More on slices of bytes and strings told by functions: parts of them, rows of few bytes, a string with a byte more, an answer that says whether a proposition holds. No program is named here.
-/
namespace Go.Proofs.Ytbcanfelfdalbaa
open Go.RowKit

theorem Sl.cut {w : World} {b off n cap : Nat} {f : Nat → Int} (h : Sl w (some ⟨b, off, none⟩) n cap f) (i : Nat) (hi : i < n) : Sl w (some ⟨b, off + i, none⟩) (n - i) (cap - i) (fun j => f (i + j)) := by
  have h1 := h.le
  have h2 := h.mx
  refine ⟨by omega, by omega, fun j => h.bd _, fun e => absurd e (by simp), fun h0 => ⟨b, off + i, rfl, ?_, fun j hj => ?_⟩⟩
  · obtain ⟨b', off', e, hlt, _⟩ := h.at' (by omega)
    cases e; exact hlt
  · obtain ⟨b', off', e, _, hc⟩ := h.at' (by omega)
    cases e
    rw [Nat.add_assoc]; exact hc (i + j) (by omega)

theorem Sl.drew {w : World} {a : Option Addr} {n cap : Nat} {f : Nat → Int} (h : Sl w a n cap f) : Sl w.drew a n cap f := ⟨h.le, h.mx, h.bd, h.nil, h.at'⟩

theorem cell_of_row {w : World} {B : Nat} {h : Nat → Int} {N : Nat} {t : TypeId} {fr : Nat × Nat} (hg : w.heap[B]? = some (.cells (vals h N).toArray t fr)) (j : Nat) (hj : j < N) : w.cell? ⟨B, j, none⟩ = some (.int .u8 (h j)) := by
  have := vals_get h N j hj
  simp [World.cell?, hg, this]

/-- Four bytes that were just laid, as a slice. -/
theorem Sl.four {w : World} {x0 x1 x2 x3 : Int} (t : TypeId) (g : Nat → Int) (hg : ∀ i, 0 ≤ g i ∧ g i ≤ 255) (h0 : x0 = g 0) (h1 : x1 = g 1) (h2 : x2 = g 2) (h3 : x3 = g 3) : Sl (w.alloc (.cells #[.int .u8 x0, .int .u8 x1, .int .u8 x2, .int .u8 x3] t)) (some ⟨w.heap.size, 0, none⟩) 4 4 g := by
  refine ⟨Nat.le_refl _, by decide, hg, fun e => absurd e (by simp), fun _ => ⟨w.heap.size, 0, rfl, by simp, fun i hi => ?_⟩⟩
  subst h0 h1 h2 h3
  obtain rfl | rfl | rfl | rfl : i = 0 ∨ i = 1 ∨ i = 2 ∨ i = 3 := by omega
  all_goals simp

/-- Some of three bytes that were just laid, as a slice. -/
theorem Sl.three {w : World} {x0 x1 x2 : Int} (t : TypeId) (g : Nat → Int) (n : Nat) (hn : n ≤ 3) (hg : ∀ i, 0 ≤ g i ∧ g i ≤ 255) (h0 : x0 = g 0) (h1 : x1 = g 1) (h2 : x2 = g 2) : Sl (w.alloc (.cells #[.int .u8 x0, .int .u8 x1, .int .u8 x2] t)) (some ⟨w.heap.size, 0, none⟩) n 3 g := by
  refine ⟨hn, by decide, hg, fun e => absurd e (by simp), fun _ => ⟨w.heap.size, 0, rfl, by simp, fun i hi => ?_⟩⟩
  subst h0 h1 h2
  obtain rfl | rfl | rfl : i = 0 ∨ i = 1 ∨ i = 2 := by omega
  all_goals simp

theorem Sl.one {w : World} {x0 : Int} (t : TypeId) (g : Nat → Int) (hg : ∀ i, 0 ≤ g i ∧ g i ≤ 255) (h0 : x0 = g 0) : Sl (w.alloc (.cells #[.int .u8 x0] t)) (some ⟨w.heap.size, 0, none⟩) 1 1 g := by
  refine ⟨Nat.le_refl _, by decide, hg, fun e => absurd e (by simp), fun _ => ⟨w.heap.size, 0, rfl, by simp, fun i hi => ?_⟩⟩
  subst h0
  obtain rfl : i = 0 := by omega
  simp

theorem Sl.first {w : World} {a : Option Addr} {n cap : Nat} {f : Nat → Int} (h : Sl w a n cap f) (m : Nat) (hm : m ≤ n) : Sl w a m cap f :=
  ⟨Nat.le_trans hm h.le, h.mx, h.bd, fun e => ⟨by have := (h.nil e).1; omega, (h.nil e).2⟩, fun h0 => by
    obtain ⟨b, off, e, hlt, hc⟩ := h.at' (by omega)
    exact ⟨b, off, e, hlt, fun i hi => hc i (by omega)⟩⟩

theorem str_snoc {f : Nat → Int} (hf : ∀ i, 0 ≤ f i ∧ f i ≤ 255) (m : Nat) (x : Int) (hx : x = f m) : str f m ++ str (fun _ => x) 1 = str f (m + 1) := by
  subst hx
  have h := (St.of hf m).append (St.of (f := fun _ => f m) (fun _ => hf m) 1)
  refine (h.congr hf (fun i hi => ?_)).inj (St.of hf (m + 1))
  by_cases e : i < m
  · rw [cat_lt e]
  · rw [cat_ge (by omega), show i = m by omega]

/-- The answer is whether p holds. -/
def Says (e : Ending) (p : Prop) : Prop := ∃ b, e = .returned (.bool b) ∧ (b = true ↔ p)
theorem Says.yes {p : Prop} (h : p) : Says (.returned (.bool true)) p := ⟨true, rfl, by simp [h]⟩
theorem Says.no {p : Prop} (h : ¬ p) : Says (.returned (.bool false)) p := ⟨false, rfl, by simp [h]⟩
theorem Says.of {e : Ending} {p : Prop} (h : Says e p) : (e = .returned (.bool true) ∧ p) ∨ (e = .returned (.bool false) ∧ ¬ p) := by
  obtain ⟨b, rfl, hb⟩ := h
  cases b
  · exact Or.inr ⟨rfl, fun q => by simpa using hb.2 q⟩
  · exact Or.inl ⟨rfl, hb.1 rfl⟩

theorem St.get? {s : ByteArray} {n : Nat} {f : Nat → Int} (h : St s n f) {i : Nat} (hi : i < n) : ∃ x : UInt8, s.toList[i]? = some x ∧ (x.toNat : Int) = f i := by
  have hi' : i < s.size := by rw [h.size]; exact hi
  refine ⟨s[i]'hi', ?_, h.get i hi'⟩
  rw [ByteArray.toList_eq, Array.getElem?_toList]
  exact Array.getElem?_eq_getElem hi'
theorem St.length {s : ByteArray} {n : Nat} {f : Nat → Int} (h : St s n f) : s.toList.length = n := by
  rw [ByteArray.toList_eq, Array.length_toList]; exact h.size

theorem St.isEmpty_no {s : ByteArray} {n : Nat} {f : Nat → Int} (h : St s n f) (hn : 0 < n) : s.toList.isEmpty = false := by
  cases e : s.toList with
  | nil => have := h.length; rw [e] at this; simp at this; omega
  | cons => rfl

theorem St.isEmpty_yes {s : ByteArray} {f : Nat → Int} (h : St s 0 f) : s.toList.isEmpty = true := by
  cases e : s.toList with
  | nil => rfl
  | cons => have := h.length; rw [e] at this; simp at this
end Go.Proofs.Ytbcanfelfdalbaa

/-
  Rows of numbers, told by lists. No program is named here.
-/
namespace Go.Proofs.Ytbcanfelfdalbaa
open Go.RowKit
namespace Pr
abbrev Row := List Int
/-- The number at a place. -/
def it (xs : Row) (i : Nat) : Int := xs.getD i 0
theorem it_get {xs : Row} {i : Nat} (h : i < xs.length) : xs[i]? = some (it xs i) := by simp [it, h]
theorem it_mem {xs : Row} {i : Nat} (h : i < xs.length) : it xs i ∈ xs := by
  have := it_get h
  exact List.mem_of_getElem? this
theorem it_left {xs ys : Row} {i : Nat} (h : i < xs.length) : it (xs ++ ys) i = it xs i := by
  unfold it
  rw [List.getD_eq_getElem?_getD, List.getD_eq_getElem?_getD, List.getElem?_append_left h]
theorem it_right {xs ys : Row} (i : Nat) : it (xs ++ ys) (xs.length + i) = it ys i := by
  unfold it
  rw [List.getD_eq_getElem?_getD, List.getD_eq_getElem?_getD, List.getElem?_append_right (by omega), show xs.length + i - xs.length = i by omega]
theorem it_ext {xs ys : Row} (hl : xs.length = ys.length) (h : ∀ i, i < xs.length → it xs i = it ys i) : xs = ys := by
  apply List.ext_getElem?
  intro i
  by_cases hi : i < xs.length
  · rw [it_get hi, it_get (by omega), h i hi]
  · rw [List.getElem?_eq_none (by omega), List.getElem?_eq_none (by omega)]
theorem it_take {xs : Row} {m i : Nat} (h : i < m) : it (xs.take m) i = it xs i := by
  unfold it
  rw [List.getD_eq_getElem?_getD, List.getD_eq_getElem?_getD, List.getElem?_take_of_lt h]
theorem it_drop (xs : Row) (m i : Nat) : it (xs.drop m) i = it xs (m + i) := by
  unfold it
  rw [List.getD_eq_getElem?_getD, List.getD_eq_getElem?_getD, List.getElem?_drop]

/-- A row with one number in the place of two. -/
def jn (xs : Row) (p : Nat) (o : Int) : Row := xs.take p ++ o :: xs.drop (p + 2)
theorem jn_len {xs : Row} {p : Nat} (o : Int) (h : p + 1 < xs.length) : (jn xs p o).length = xs.length - 1 := by
  unfold jn
  rw [List.length_append, List.length_cons, List.length_take, List.length_drop]
  omega
theorem jn_it {xs : Row} {p : Nat} (o : Int) (h : p + 1 < xs.length) (i : Nat) : it (jn xs p o) i = if i < p then it xs i else if i = p then o else it xs (i + 1) := by
  have hl : (xs.take p).length = p := by rw [List.length_take]; omega
  unfold jn
  by_cases h1 : i < p
  · rw [if_pos h1, it_left (by omega), it_take h1]
  · rw [if_neg h1]
    obtain ⟨m, rfl⟩ : ∃ m, i = p + m := ⟨i - p, by omega⟩
    have e := it_right (xs := xs.take p) (ys := o :: xs.drop (p + 2)) m
    rw [hl] at e
    rw [e]
    cases m with
    | zero => rw [if_pos (by omega)]; rfl
    | succ m =>
      rw [if_neg (by omega)]
      show it (xs.drop (p + 2)) m = _
      rw [it_drop]
      congr 1
      omega
end Pr
end Go.Proofs.Ytbcanfelfdalbaa

/-
  Slices of numbers told by lists; rows that are written in their place. No program is named here.
-/
namespace Go.Proofs.Ytbcanfelfdalbaa
open Go.RowKit
open Pr (it)

/-- Numbers as values. -/
def iv (xs : Pr.Row) : List Value := xs.map (Value.int .i64)
theorem iv_length (xs : Pr.Row) : (iv xs).length = xs.length := by simp [iv]
theorem iv_append (xs ys : Pr.Row) : iv xs ++ iv ys = iv (xs ++ ys) := by simp [iv]
theorem iv_one (xs : Pr.Row) : ∀ u ∈ iv xs, u.oneCell' = true := by
  intro u hu
  simp only [iv, List.mem_map] at hu
  obtain ⟨i, _, rfl⟩ := hu
  rfl
theorem iv_get {xs : Pr.Row} {i : Nat} (h : i < xs.length) : (iv xs)[i]? = some (.int .i64 (it xs i)) := by
  unfold iv
  rw [List.getElem?_map, Pr.it_get h]
  rfl
theorem iv_inv {xs : Pr.Row} {i : Nat} {u : Value} (h : (iv xs)[i]? = some u) : i < xs.length ∧ u = .int .i64 (it xs i) := by
  have hi : i < xs.length := by
    have := (List.getElem?_eq_some_iff.1 h).1
    rwa [iv_length] at this
  rw [iv_get hi] at h
  exact ⟨hi, (Option.some.inj h).symm⟩

/-- A slice of numbers: nil, or it leads to cells that hold them. -/
structure Ir (w : World) (a : Option Addr) (n cap : Nat) (xs : Pr.Row) : Prop where
  len : xs.length = n
  le : n ≤ cap
  mx : cap ≤ maxLen
  nil : a = none → n = 0 ∧ cap = 0
  at' : 0 < n → ∃ b off, a = some ⟨b, off, none⟩ ∧ b < w.heap.size ∧ ∀ i, i < n → w.cell? ⟨b, off + i, none⟩ = some (.int .i64 (it xs i))
theorem Ir.below {w w' : World} {a : Option Addr} {n cap : Nat} {xs : Pr.Row} (h : Ir w a n cap xs) (hb : Below w.heap.size w w') : Ir w' a n cap xs :=
  ⟨h.len, h.le, h.mx, h.nil, fun hn => by
    obtain ⟨b, off, rfl, hlt, hc⟩ := h.at' hn
    exact ⟨b, off, rfl, Nat.lt_of_lt_of_le hlt hb.size, fun i hi => by rw [hb.cell (p := ⟨b, off + i, none⟩) hlt]; exact hc i hi⟩⟩
theorem Ir.none (w : World) : Ir w .none 0 0 [] := ⟨rfl, Nat.le_refl _, Nat.zero_le _, fun _ => ⟨rfl, rfl⟩, fun h => absurd h (by omega)⟩
theorem Ir.src {w : World} {a : Option Addr} {n cap : Nat} {xs : Pr.Row} (h : Ir w a n cap xs) : Src w a n cap 1 (iv xs) :=
  ⟨by rw [iv_length, h.len, Nat.mul_one], iv_one xs, h.nil, fun ad ha j u hu => by
    obtain ⟨hj, rfl⟩ := iv_inv hu
    rw [h.len] at hj
    obtain ⟨b, off, hab, _, hc⟩ := h.at' (by omega)
    rw [ha] at hab
    cases hab
    rw [Addr.add_lit]
    exact hc j hj⟩
/-- 's[:m]'. -/
theorem Ir.first {w : World} {a : Option Addr} {n cap : Nat} {xs : Pr.Row} (h : Ir w a n cap xs) (m : Nat) (hm : m ≤ n) : Ir w a m cap (xs.take m) :=
  ⟨by rw [List.length_take, h.len]; omega, Nat.le_trans hm h.le, h.mx, fun e => ⟨by have := (h.nil e).1; omega, (h.nil e).2⟩, fun h0 => by
    obtain ⟨b, off, e, hlt, hc⟩ := h.at' (by omega)
    refine ⟨b, off, e, hlt, fun i hi => ?_⟩
    rw [Pr.it_take hi]
    exact hc i (by omega)⟩
/-- 's[m:]'. -/
theorem Ir.cut {w : World} {b off n cap : Nat} {xs : Pr.Row} (h : Ir w (some ⟨b, off, .none⟩) n cap xs) (m : Nat) (hm : m ≤ n) : Ir w (some ⟨b, off + m, .none⟩) (n - m) (cap - m) (xs.drop m) :=
  ⟨by rw [List.length_drop, h.len], by have := h.le; omega, by have := h.mx; omega, fun e => absurd e (by simp), fun h0 => by
    obtain ⟨b', off', e, hlt, hc⟩ := h.at' (by omega)
    cases e
    refine ⟨b, off + m, rfl, hlt, fun i hi => ?_⟩
    rw [Pr.it_drop, Nat.add_assoc]
    exact hc (m + i) (by omega)⟩
/-- A slice of no numbers. -/
theorem Ir.zero (w : World) (a : Option Addr) (c : Nat) (hc : c ≤ maxLen) (h : a = .none → c = 0) : Ir w a 0 c [] :=
  ⟨rfl, Nat.zero_le _, hc, fun e => ⟨rfl, h e⟩, fun h => absurd h (by omega)⟩
/-- A row of the call's own as a slice of numbers. -/
theorem Ir.ofOwn {w : World} {base : Nat} {e : TypeId} {v : Value} {n : Nat} {xs : Pr.Row} (h : w.ownsRow base e 1 v n (iv xs)) : ∃ a cap, v = .slice a n cap ∧ Ir w a n cap xs := by
  obtain ⟨hl, h⟩ := h
  rw [iv_length, Nat.mul_one] at hl
  rcases h with ⟨rfl, rfl⟩ | ⟨g, cap, cur, rfl, hb, hg, hn, hm, hs, ht⟩
  · exact ⟨.none, 0, rfl, hl, by omega, Nat.zero_le _, fun _ => ⟨rfl, rfl⟩, fun h => absurd h (by omega)⟩
  · refine ⟨_, cap, rfl, hl, hn, hm, fun h => absurd h (by simp), fun h0 => ⟨g, 0, rfl, (Array.getElem?_eq_some_iff.1 hg).1, fun i hi => ?_⟩⟩
    have e1 : (cur.toList.take (n * 1))[i]? = some (.int .i64 (it xs i)) := by rw [ht]; exact iv_get (by omega)
    rw [List.getElem?_take_of_lt (by omega)] at e1
    have e2 : cur[i]? = some (.int .i64 (it xs i)) := by simpa using e1
    simp [World.cell?, hg, e2]
theorem Ir.ofOwn' {w : World} {base : Nat} {e : TypeId} {a : Option Addr} {n cap : Nat} {xs : Pr.Row} (h : w.ownsRow base e 1 (.slice a n cap) n (iv xs)) : Ir w a n cap xs := by
  obtain ⟨a2, c2, e2, h2⟩ := Ir.ofOwn h
  cases e2
  exact h2
/-- A block laid just now. -/
theorem Ir.block {w : World} {b n : Nat} {e : TypeId} {f : Nat × Nat} {xs : Pr.Row} (hl : xs.length = n) (hb : w.heap[b]? = some (.cells (iv xs).toArray e f)) (hn : n ≤ maxLen) : Ir w (some ⟨b, 0, .none⟩) n n xs :=
  ⟨hl, Nat.le_refl _, hn, fun e => absurd e (by simp), fun h0 => ⟨b, 0, rfl, (Array.getElem?_eq_some_iff.1 hb).1, fun i hi => by
    have := iv_get (xs := xs) (i := i) (by omega)
    simp only [World.cell?, hb]
    simpa using this⟩⟩

/-- A row in a block that is known whole, spare cells and all. -/
theorem splice_get {α : Type} (L : List α) (off : Nat) (cs : List α) (h : off + cs.length ≤ L.length) (i : Nat) : (splice L off cs)[i]? = if i < off then L[i]? else if i < off + cs.length then cs[i - off]? else L[i]? := by
  unfold splice
  by_cases h1 : i < off
  · rw [if_pos h1, List.getElem?_append_left (by rw [List.length_take]; omega), List.getElem?_take_of_lt h1]
  · rw [if_neg h1, List.getElem?_append_right (by rw [List.length_take]; omega), List.length_take, Nat.min_eq_left (by omega)]
    by_cases h2 : i < off + cs.length
    · rw [if_pos h2, List.getElem?_append_left (by omega)]
    · rw [if_neg h2, List.getElem?_append_right (by omega), List.getElem?_drop]
      congr 1
      omega
/-- What two copies and a store make of a row. -/
theorem join_list {cur : List Value} {xs : Pr.Row} {n m p : Nat} (o : Int) (hl : xs.length = n) (hm : n = m + 1) (hp : p + 1 < n) (hc : m ≤ cur.length) :
    ((splice (splice cur 0 (iv (xs.take p))) (p + 1) (iv (xs.drop (p + 2)))).set p (.int .i64 o)).take m = iv (Pr.jn xs p o) := by
  have l1 : (iv (xs.take p)).length = p := by rw [iv_length, List.length_take]; omega
  have l2 : (iv (xs.drop (p + 2))).length = n - (p + 2) := by rw [iv_length, List.length_drop, hl]
  have l3 : (splice cur 0 (iv (xs.take p))).length = cur.length := length_splice _ _ _ (by omega)
  have l4 : (splice (splice cur 0 (iv (xs.take p))) (p + 1) (iv (xs.drop (p + 2)))).length = cur.length := by rw [length_splice _ _ _ (by omega), l3]
  have lj : (Pr.jn xs p o).length = m := by rw [Pr.jn_len o (by omega)]; omega
  apply List.ext_getElem?
  intro i
  by_cases hi : i < m
  · rw [List.getElem?_take_of_lt hi, iv_get (by omega), Pr.jn_it o (by omega), List.getElem?_set]
    by_cases h1 : p = i
    · rw [if_pos h1, if_pos (by omega), if_neg (by omega), if_pos h1.symm]
    · rw [if_neg h1, splice_get _ _ _ (by omega)]
      by_cases h2 : i < p
      · rw [if_pos (by omega), splice_get _ _ _ (by omega), if_neg (by omega), if_pos (by omega), if_pos h2]
        have e := iv_get (xs := xs.take p) (i := i) (by rw [List.length_take]; omega)
        rw [Pr.it_take h2] at e
        exact e
      · rw [if_neg (by omega), if_pos (by omega), if_neg h2, if_neg (by omega)]
        have e := iv_get (xs := xs.drop (p + 2)) (i := i - (p + 1)) (by rw [List.length_drop]; omega)
        rw [e, Pr.it_drop]
        congr 3
        omega
  · rw [List.getElem?_eq_none (by rw [List.length_take]; omega), List.getElem?_eq_none (by rw [iv_length]; omega)]
theorem set_row {w : World} {G p : Nat} {cur : List Value} {t : TypeId} {f : Nat × Nat} (h : w.heap[G]? = some (.cells cur.toArray t f)) (v : Value) : (w.setCell ⟨G, p, none⟩ v).heap[G]? = some (.cells (cur.set p v).toArray t f) := by
  rw [World.setCell, Array.getElem?_modify, if_pos rfl, h]
  simp
theorem cell_row {w : World} {G : Nat} {cur : List Value} {t : TypeId} {f : Nat × Nat} (h : w.heap[G]? = some (.cells cur.toArray t f)) (i : Nat) : w.cell? ⟨G, i, none⟩ = cur[i]? := by
  simp [World.cell?, h]

section
open Go.ChangeShapes Go.WideShapes
variable {H0 : Type} {enc : TypeId × Value → H0} {P : Program} {w : World} {base : Nat} {spare : Nat → Bool} {held : Bool}
/-- Each number fits. -/
def Fits (xs : Pr.Row) : Prop := ∀ x ∈ xs, (Lit.int .i64 x).wf = true
theorem open_ir {r : Reach} {b0 : Nat} {t e : TypeId} {v : Value} {d : DataW H0} {p : List MemPlace} (ht : P.underlying t = some (.slice e)) (he : P.underlying e = some (.int .i64)) (hc : P.cellsOf e = 1)
    (hv : Value.okWide P w r b0 t v) (h : DataW.Trod enc P w base spare held t v d p) : ∃ a n c xs, v = .slice a n c ∧ Ir w a n c xs ∧ Fits xs := by
  obtain ⟨a, n, c, rfl⟩ := okWide_slice ht hv
  obtain ⟨fuel, hf⟩ := h
  rcases open_ints ht he hc hf with ⟨hcs, _⟩ | ⟨x, l, k, zs, hcs, _, hl, hm, hz, _, hcell, hwz⟩
  · simp [Value.cells] at hcs
    obtain ⟨rfl, rfl, rfl⟩ := hcs
    exact ⟨none, 0, 0, [], rfl, Ir.none w, fun x hx => by cases hx⟩
  · simp [Value.cells] at hcs
    obtain ⟨rfl, rfl, rfl⟩ := hcs
    have hln : n ≤ zs.length := by rw [hz]; split <;> omega
    refine ⟨some x, n, c, zs.take n, rfl, ⟨by rw [List.length_take]; omega, hl, hm, fun h => absurd h (by simp), fun h0 => ?_⟩, fun x hx => hwz x (List.mem_of_mem_take hx)⟩
    obtain ⟨b, off, spot⟩ := x
    have hs : spot = none := by
      have := World.cell?_spot (hcell 0 (by omega))
      simpa [Addr.add] using this
    subst hs
    have hc : ∀ i, i < n → w.cell? ⟨b, off + i, none⟩ = some (.int .i64 (it (zs.take n) i)) := fun i hi => by
      have := hcell i (by omega)
      rw [Addr.add_lit] at this
      rw [Pr.it_take hi]
      exact this
    exact ⟨b, off, rfl, World.block_lt_of_cell? _ _ (hc 0 h0), hc⟩
end
end Go.Proofs.Ytbcanfelfdalbaa

/-
  Slices of ranges (three integers each) told by functions of the place. No program is named here.
-/
namespace Go.Proofs.Ytbcanfelfdalbaa
open Go.RowKit

/-- Cells at block b from off on: triples of integers. -/
structure Tr (w : World) (b off n : Nat) (L H C : Nat → Int) : Prop where
  lo : ∀ i, i < n → w.cell? ⟨b, off + i * 3, none⟩ = some (.int .i64 (L i))
  hi : ∀ i, i < n → w.cell? ⟨b, off + i * 3 + 1, none⟩ = some (.int .i64 (H i))
  cl : ∀ i, i < n → w.cell? ⟨b, off + i * 3 + 2, none⟩ = some (.int .i64 (C i))
theorem Tr.below {w w' : World} {b off n : Nat} {L H C : Nat → Int} (h : Tr w b off n L H C) (hlt : b < w.heap.size) (hb : Below w.heap.size w w') : Tr w' b off n L H C :=
  ⟨fun i hi => by rw [hb.cell (p := ⟨b, off + i * 3, none⟩) hlt]; exact h.lo i hi, fun i hi => by rw [hb.cell (p := ⟨b, off + i * 3 + 1, none⟩) hlt]; exact h.hi i hi, fun i hi => by rw [hb.cell (p := ⟨b, off + i * 3 + 2, none⟩) hlt]; exact h.cl i hi⟩

/-- A slice of ranges: nil, or it leads to cells that hold what L, H, C tell. -/
structure Rs (w : World) (a : Option Addr) (n cap : Nat) (L H C : Nat → Int) : Prop where
  le : n ≤ cap
  mx : cap ≤ maxLen
  nil : a = none → n = 0 ∧ cap = 0
  at' : 0 < n → ∃ b off, a = some ⟨b, off, none⟩ ∧ b < w.heap.size ∧ Tr w b off n L H C
theorem Rs.below {w w' : World} {a : Option Addr} {n cap : Nat} {L H C : Nat → Int} (h : Rs w a n cap L H C) (hb : Below w.heap.size w w') : Rs w' a n cap L H C :=
  ⟨h.le, h.mx, h.nil, fun hn => by
    obtain ⟨b, off, rfl, hlt, ht⟩ := h.at' hn
    exact ⟨b, off, rfl, Nat.lt_of_lt_of_le hlt hb.size, ht.below hlt hb⟩⟩

/-- The cells of n ranges. -/
def fvals (L H C : Nat → Int) (n : Nat) : List Value := (List.range n).flatMap fun i => [.int .i64 (L i), .int .i64 (H i), .int .i64 (C i)]
theorem fvals_snoc (L H C : Nat → Int) (n : Nat) : fvals L H C n ++ [.int .i64 (L n), .int .i64 (H n), .int .i64 (C n)] = fvals L H C (n + 1) := by
  unfold fvals; rw [List.range_succ, List.flatMap_append]; simp
theorem fvals_length (L H C : Nat → Int) (n : Nat) : (fvals L H C n).length = n * 3 := by
  induction n with
  | zero => rfl
  | succ n ih => rw [← fvals_snoc, List.length_append, ih]; simp; omega
theorem fvals_one (L H C : Nat → Int) (n : Nat) : ∀ u ∈ fvals L H C n, u.oneCell' = true := by
  intro u hu
  simp only [fvals, List.mem_flatMap] at hu
  obtain ⟨i, _, hi⟩ := hu
  simp at hi
  rcases hi with rfl | rfl | rfl <;> rfl
theorem fvals_congr {L H C L' H' C' : Nat → Int} {n : Nat} (h0 : ∀ i, i < n → L i = L' i) (h1 : ∀ i, i < n → H i = H' i) (h2 : ∀ i, i < n → C i = C' i) : fvals L H C n = fvals L' H' C' n := by
  induction n with
  | zero => rfl
  | succ n ih =>
    rw [← fvals_snoc, ← fvals_snoc, ih (fun i hi => h0 i (by omega)) (fun i hi => h1 i (by omega)) (fun i hi => h2 i (by omega)), h0 n (by omega), h1 n (by omega), h2 n (by omega)]
theorem fvals_get (L H C : Nat → Int) (n : Nat) : ∀ i, i < n → (fvals L H C n)[i * 3]? = some (.int .i64 (L i)) ∧ (fvals L H C n)[i * 3 + 1]? = some (.int .i64 (H i)) ∧ (fvals L H C n)[i * 3 + 2]? = some (.int .i64 (C i)) := by
  induction n with
  | zero => intro i hi; omega
  | succ n ih =>
    intro i hi
    rw [← fvals_snoc]
    have hl := fvals_length L H C n
    rcases Nat.lt_succ_iff_lt_or_eq.1 hi with h | rfl
    · rw [List.getElem?_append_left (by omega), List.getElem?_append_left (by omega), List.getElem?_append_left (by omega)]
      exact ih i h
    · rw [List.getElem?_append_right (by omega), List.getElem?_append_right (by omega), List.getElem?_append_right (by omega), hl]
      simp [Nat.add_sub_cancel_left]
/-- Which place of a row of ranges a cell is. -/
theorem fvals_inv {L H C : Nat → Int} {n j : Nat} {u : Value} (h : (fvals L H C n)[j]? = some u) : ∃ i, i < n ∧ ((j = i * 3 ∧ u = .int .i64 (L i)) ∨ (j = i * 3 + 1 ∧ u = .int .i64 (H i)) ∨ (j = i * 3 + 2 ∧ u = .int .i64 (C i))) := by
  have hj : j < n * 3 := by
    have := (List.getElem?_eq_some_iff.1 h).1
    rwa [fvals_length] at this
  obtain ⟨e0, e1, e2⟩ := fvals_get L H C n (j / 3) (by omega)
  refine ⟨j / 3, by omega, ?_⟩
  obtain h3 | h3 | h3 : j = j / 3 * 3 ∨ j = j / 3 * 3 + 1 ∨ j = j / 3 * 3 + 2 := by omega
  · rw [← h3] at e0; rw [e0] at h; exact .inl ⟨h3, (Option.some.inj h).symm⟩
  · rw [← h3] at e1; rw [e1] at h; exact .inr (.inl ⟨h3, (Option.some.inj h).symm⟩)
  · rw [← h3] at e2; rw [e2] at h; exact .inr (.inr ⟨h3, (Option.some.inj h).symm⟩)
/-- A slice of ranges as what is appended. -/
theorem Rs.src {w : World} {a : Option Addr} {n cap : Nat} {L H C : Nat → Int} (h : Rs w a n cap L H C) : Src w a n cap 3 (fvals L H C n) :=
  ⟨fvals_length L H C n, fvals_one L H C n, h.nil, fun ad ha j u hu => by
    obtain ⟨i, hi, hj⟩ := fvals_inv hu
    obtain ⟨b, off, hab, _, ht⟩ := h.at' (by omega)
    rw [ha] at hab
    cases hab
    rw [Addr.add_lit]
    rcases hj with ⟨rfl, rfl⟩ | ⟨rfl, rfl⟩ | ⟨rfl, rfl⟩
    · exact ht.lo i hi
    · exact ht.hi i hi
    · exact ht.cl i hi⟩
/-- A row of the call's own as a slice of ranges. -/
theorem Rs.ofOwn {w : World} {base : Nat} {e : TypeId} {v : Value} {n : Nat} {L H C : Nat → Int} (h : w.ownsRow base e 3 v n (fvals L H C n)) : ∃ a cap, v = .slice a n cap ∧ Rs w a n cap L H C := by
  obtain ⟨hl, h⟩ := h
  rcases h with ⟨rfl, rfl⟩ | ⟨g, cap, cur, rfl, hb, hg, hn, hm, hs, ht⟩
  · exact ⟨none, 0, rfl, by omega, Nat.zero_le _, fun _ => ⟨rfl, rfl⟩, fun h => absurd h (by omega)⟩
  · refine ⟨_, cap, rfl, hn, hm, fun h => absurd h (by simp), fun h0 => ⟨g, 0, rfl, (Array.getElem?_eq_some_iff.1 hg).1, ?_⟩⟩
    have key : ∀ j x, (fvals L H C n)[j]? = some x → w.cell? ⟨g, 0 + j, none⟩ = some x := fun j x hj => by
      have hj' : j < n * 3 := by
        have := (List.getElem?_eq_some_iff.1 hj).1
        rwa [fvals_length] at this
      rw [← ht, List.getElem?_take_of_lt hj'] at hj
      have e2 : cur[j]? = some x := by simpa using hj
      simp [World.cell?, hg, e2]
    exact ⟨fun i hi => key _ _ (fvals_get L H C n i hi).1, fun i hi => key _ _ (fvals_get L H C n i hi).2.1, fun i hi => key _ _ (fvals_get L H C n i hi).2.2⟩
end Go.Proofs.Ytbcanfelfdalbaa

/-
  What came in, opened: slices of ranges, and one range by value. No program is named here.
-/
namespace Go.Proofs.Ytbcanfelfdalbaa
open Go.RowKit Go.ChangeShapes Go.WideShapes

section
variable {H0 : Type} {enc : TypeId × Value → H0} {P : Program} {w : World} {base : Nat} {spare : Nat → Bool} {held : Bool}

theorem open_rs {r : Reach} {b0 : Nat} {t e ti : TypeId} {f0 f1 f2 : Field} {v : Value} {d : DataW H0} {p : List MemPlace} (ht : P.underlying t = some (.slice e)) (he : P.underlying e = some (.struct #[f0, f1, f2])) (ce : P.cellsOf e = 3)
    (ht0 : f0.type = ti) (ht1 : f1.type = ti) (ht2 : f2.type = ti) (ho0 : f0.offset = 0) (ho1 : f1.offset = 1) (ho2 : f2.offset = 2) (hti : P.underlying ti = some (.int .i64)) (ci : P.cellsOf ti = 1)
    (hv : Value.okWide P w r b0 t v) (h : DataW.Trod enc P w base spare held t v d p) : ∃ a n c L H C, v = .slice a n c ∧ Rs w a n c L H C := by
  obtain ⟨a, n, c, rfl⟩ := okWide_slice ht hv
  obtain ⟨fuel, hf⟩ := h
  rcases Deep.open_slice ht hf with ⟨hcs, _⟩ | ⟨x, l, k, m, q, D, Pl, hcs, _, hl, hm, hmm, _, hx⟩
  · simp [Value.cells] at hcs
    obtain ⟨rfl, rfl, rfl⟩ := hcs
    exact ⟨none, 0, 0, fun _ => 0, fun _ => 0, fun _ => 0, rfl, Nat.le_refl _, Nat.zero_le _, fun _ => ⟨rfl, rfl⟩, fun h => absurd h (by omega)⟩
  · simp [Value.cells] at hcs
    obtain ⟨rfl, rfl, rfl⟩ := hcs
    have hlm : n ≤ m := by rw [hmm]; split <;> omega
    have each : ∀ i, i < n → ∃ y : Int × Int × Int, w.cell? (x.add (i * 3)) = some (.int .i64 y.1) ∧ w.cell? (x.add (i * 3 + 1)) = some (.int .i64 y.2.1) ∧ w.cell? (x.add (i * 3 + 2)) = some (.int .i64 y.2.2) := by
      intro i hi
      obtain ⟨cs', h1, h2⟩ := hx i (by omega)
      rw [ce] at h1
      obtain ⟨_, hlen, hcell⟩ := World.cells?_some h1
      obtain ⟨y0, y1, y2, n', _, _, g0, g1, g2⟩ := Deep.trod_struct3 he h2
      match cs', hlen with
      | [v0, v1, v2], _ =>
        simp [ht0, ht1, ht2, ho0, ho1, ho2, ci] at g0 g1 g2
        obtain ⟨z0, k0, _, _⟩ := DataW.trod_int hti g0
        obtain ⟨z1, k1, _, _⟩ := DataW.trod_int hti g1
        obtain ⟨z2, k2, _, _⟩ := DataW.trod_int hti g2
        simp at k0 k1 k2
        subst k0 k1 k2
        have e0 := hcell 0 (by omega)
        have e1 := hcell 1 (by omega)
        have e2 := hcell 2 (by omega)
        rw [Deep.add_add] at e0 e1 e2
        exact ⟨(z0, z1, z2), by simpa using e0, by simpa using e1, by simpa using e2⟩
    obtain ⟨Y, hY⟩ := Deep.choose_lt each
    refine ⟨some x, n, c, fun i => (Y i).1, fun i => (Y i).2.1, fun i => (Y i).2.2, rfl, hl, hm, fun e => absurd e (by simp), fun h0 => ?_⟩
    obtain ⟨b, off, spot⟩ := x
    have hs : spot = none := by
      have := World.cell?_spot (hY 0 h0).1
      simpa [Addr.add] using this
    subst hs
    refine ⟨b, off, rfl, ?_, fun i hi => ?_, fun i hi => ?_, fun i hi => ?_⟩
    · exact World.block_lt_of_cell? _ _ (by have := (hY 0 h0).1; rwa [Addr.add_lit] at this)
    · have := (hY i hi).1; rwa [Addr.add_lit] at this
    · have := (hY i hi).2.1; rwa [Addr.add_lit] at this
    · have := (hY i hi).2.2; rwa [Addr.add_lit] at this

theorem open_range {r : Reach} {b0 : Nat} {t ti : TypeId} {f0 f1 f2 : Field} {v : Value} {d : DataW H0} {p : List MemPlace} (he : P.underlying t = some (.struct #[f0, f1, f2])) (hone : Deep.oneCellFields P #[f0, f1, f2] = true) (ce : P.cellsOf t = 3)
    (ht0 : f0.type = ti) (ht1 : f1.type = ti) (ht2 : f2.type = ti) (hti : P.underlying ti = some (.int .i64))
    (hv : Value.okWide P w r b0 t v) (h : DataW.Trod enc P w base spare held t v d p) : ∃ x y z, v = .agg #[.int .i64 x, .int .i64 y, .int .i64 z] := by
  obtain ⟨v0, v1, v2, y0, y1, y2, n, rfl, _, _, g0, g1, g2⟩ := Joins.open_agg3 he hone ce hv h
  rw [ht0] at g0
  rw [ht1] at g1
  rw [ht2] at g2
  obtain ⟨z0, k0, _, _⟩ := DataW.trod_int hti g0
  obtain ⟨z1, k1, _, _⟩ := DataW.trod_int hti g1
  obtain ⟨z2, k2, _, _⟩ := DataW.trod_int hti g2
  simp at k0 k1 k2
  subst k0 k1 k2
  exact ⟨z0, z1, z2, rfl⟩
end
end Go.Proofs.Ytbcanfelfdalbaa

/-
  What a call that writes into some blocks alone leaves as it was. No program is named here.
-/
namespace Go.Proofs.Ytbcanfelfdalbaa
open Go.RowKit

/-- But for the blocks in S the world w' is as w was, as far as w went. -/
structure Mut (S : Nat → Prop) (w w' : World) : Prop where
  os : w'.os = w.os
  tape : w'.tape = w.tape
  output : w'.output = w.output
  size : w.heap.size ≤ w'.heap.size
  block : ∀ k, k < w.heap.size → ¬ S k → w'.heap[k]? = w.heap[k]?
theorem Mut.refl (S : Nat → Prop) (w : World) : Mut S w w := ⟨rfl, rfl, rfl, Nat.le_refl _, fun _ _ _ => rfl⟩
theorem Mut.trans {S S' : Nat → Prop} {a b c : World} (h : Mut S a b) (k : Mut S' b c) (hS : ∀ i, i < a.heap.size → S' i → S i) : Mut S a c :=
  ⟨k.os.trans h.os, k.tape.trans h.tape, k.output.trans h.output, Nat.le_trans h.size k.size, fun i hi hn => (k.block i (Nat.lt_of_lt_of_le hi h.size) (fun e => hn (hS i hi e))).trans (h.block i hi hn)⟩
theorem Mut.ofBelow {w w' : World} (h : Below w.heap.size w w') (S : Nat → Prop) : Mut S w w' := ⟨h.os, h.tape, h.output, h.size, fun k hk _ => h.block k hk⟩
theorem Mut.below {S : Nat → Prop} {w w' : World} (h : Mut S w w') {B : Nat} (hB : B ≤ w.heap.size) (hS : ∀ k, S k → B ≤ k) : Below B w w' :=
  ⟨h.os, h.tape, h.output, h.size, fun k hk => h.block k (by omega) (fun e => by have := hS k e; omega)⟩
theorem Mut.set (w : World) (b j : Nat) (u : Value) {S : Nat → Prop} (hb : S b) : Mut S w (w.setCell ⟨b, j, none⟩ u) :=
  ⟨rfl, rfl, rfl, by simp [World.setCell], fun k _ hn => Below.heap_setCell _ _ _ _ (fun e => hn (by simp at e; rw [e]; exact hb))⟩
theorem Mut.drewN (S : Nat → Prop) (w : World) (m : Nat) : Mut S w (w.drewN m) := Mut.ofBelow (below_drewN (Below.refl _ _) m) S
theorem Mut.drew {S : Nat → Prop} {w w' : World} (h : Mut S w w') : Mut S w w'.drew := ⟨h.os, h.tape, h.output, h.size, h.block⟩
theorem Mut.cell {S : Nat → Prop} {w w' : World} (h : Mut S w w') {b j : Nat} (hlt : b < w.heap.size) (hn : ¬ S b) : w'.cell? ⟨b, j, none⟩ = w.cell? ⟨b, j, none⟩ := World.cell?_of_block (h.block b hlt hn)
end Go.Proofs.Ytbcanfelfdalbaa

/-
  'copy' into a block that is known whole, from a slice of bytes or a string, as one step of a region that draws its order. No program is named here.
-/
namespace Go.Proofs.Ytbcanfelfdalbaa
open Go.RowKit

/-- f over the first m places of g. -/
def ovl (f : Nat → Int) (m : Nat) (g : Nat → Int) : Nat → Int := fun i => if i < m then f i else g i
theorem splice_vals (f g : Nat → Int) (m N : Nat) : splice (vals g N) 0 (vals f (min m N)) = vals (ovl f m g) N := by
  unfold splice
  rw [List.take_zero, List.nil_append, vals_length, Nat.zero_add]
  apply List.ext_getElem?
  intro i
  by_cases h : i < min m N
  · rw [List.getElem?_append_left (by rw [vals_length]; exact h), vals_get _ _ _ h, vals_get _ _ _ (by omega)]
    unfold ovl; rw [if_pos (by omega)]
  · rw [List.getElem?_append_right (by rw [vals_length]; omega), vals_length, List.getElem?_drop, show min m N + (i - min m N) = i by omega]
    by_cases h2 : i < N
    · rw [vals_get _ _ _ h2, vals_get _ _ _ h2]
      unfold ovl; rw [if_neg (by omega)]
    · rw [List.getElem?_eq_none (by rw [vals_length]; omega), List.getElem?_eq_none (by rw [vals_length]; omega)]

theorem step_copy_sl {P : Program} {ops : Array Oper} {o : Oper} {a : Act} {w : World} {K : Act → World → Prop} {Q : Exit → Act → World → Prop} {E : Prop} (hgd : o.guard = none) (d s : Operand) (dT sT : TypeId)
    (ho : o.op = .call { callee := .builtin .copy, args := #[d, s], argTypes := #[dT, sT] }) (elem : TypeId) (hu : P.underlying dT = some (.slice elem)) (hsz : (P.info? elem).map (·.size) = some 1)
    (g N dCap : Nat) (sp : Option Addr) (m c : Nat) (hd : a.eval d = .slice (some ⟨g, 0, none⟩) N dCap) (hs : a.eval s = .slice sp m c)
    (h : Nat → Int) (t : TypeId) (hg : w.heap[g]? = some (.cells (vals h N).toArray t (0, 0))) (f : Nat → Int) (hsl : Sl w sp m c f)
    (B : Nat) (w0 : World) (hb : Below B w0 w) (hBg : B ≤ g)
    (hk : ∀ w', Hid (w'.heap[g]? = some (.cells (vals (ovl f m h) N).toArray t (0, 0))) → Below B w0 w' → K (a.put o.dst (.int .i64 (min m N : Nat))) w') :
    if Region.wanted o (yielded ops a.tmps) = true then Oper.wp P o a w K Q else E := by
  refine step_copy_splice hgd d s dT sT ho elem hu hsz (some ⟨g, 0, none⟩) sp N dCap m c hd hs g 0 (vals h N) t hg (vals f (min m N)) (by rw [vals_length]) ?_ (by rw [vals_length, vals_length]; omega) (vals_one f _) B w0 hb hBg ?_
  · intro h0
    rw [vals_length] at h0
    obtain ⟨b, off, rfl, _, hc⟩ := hsl.at' (by omega)
    refine ⟨rfl, ⟨b, off, none⟩, rfl, fun j v hj => ?_⟩
    obtain ⟨hlt, rfl⟩ := vals_get_inv hj
    rw [Addr.add_lit]
    exact hc j (by omega)
  · intro w' h1 h2
    rw [splice_vals] at h1
    rw [vals_length]
    exact hk w' h1 h2

/-- From a string. -/
theorem run_copy_st {P : Program} (w : World) (dT sT ty elem : TypeId) (g N dCap : Nat) (s : ByteArray) (m : Nat) (f : Nat → Int) (hS : St s m f) (h : Nat → Int) (t : TypeId)
    (hu : P.underlying dT = some (.slice elem)) (hsz : (P.info? elem).map (·.size) = some 1) (hg : w.heap[g]? = some (.cells (vals h N).toArray t (0, 0))) :
    (Builtin.copy_ #[dT, sT] ty #[.slice (some ⟨g, 0, none⟩) N dCap, .string s]).run P w = .ok (.int .i64 (min m N : Nat)) (w.setRow g (vals (ovl f m h) N).toArray) := by
  have hcs : ((s.extract 0 (Nat.min s.size N)).data.map fun b => Value.int .u8 b.toNat).toList = vals f (min m N) := by
    have hz := hS.size
    have q := hS.extract 0 (min m N) (by omega) (by omega)
    rw [hz, show Nat.min m N = min m N from rfl]
    apply List.ext_getElem
    · rw [vals_length]
      have := q.size
      simp only [Array.length_toList, Array.size_map]
      show (s.extract 0 (min m N)).size = _
      omega
    · intro i h1 h2
      rw [vals_length] at h2
      have h3 := vals_get f (min m N) i h2
      rw [List.getElem?_eq_getElem (by rw [vals_length]; exact h2)] at h3
      rw [Option.some.inj h3]
      have := q.get i (by rw [q.size]; omega)
      simp only [Array.getElem_toList, Array.getElem_map]
      rw [Nat.zero_add] at this
      rw [← this]
      rfl
  have hst := run_storeCells_at P g 0 t (vals f (min m N)) 0 (vals h N).toArray w hg (by simp [vals_length]; omega) (vals_one f _)
  have hsp := splice_vals f h m N
  unfold splice at hsp
  rw [List.take_zero, List.nil_append, Nat.zero_add] at hsp
  simp only [Nat.add_zero, Nat.zero_add, List.take_zero, List.nil_append] at hst
  rw [hsp] at hst
  cases hq : P.info? elem with
  | none => simp [hq] at hsz
  | some i =>
    have hi : i.size = 1 := by simpa [hq] using hsz
    have hmin : s.size.min N = min m N := by rw [hS.size]
    simp only [Builtin.copy_, run_underlying hu, Builtin.lenOf, Builtin.firstCells, sizeOf, typeInfo, List.getElem?_toArray, List.getElem?_cons_zero, List.getElem?_cons_succ, Sem.run_bind, Sem.run_pure, Result.andThen_ok, hcs]
    simp [goInt, hmin, hst, hq, hi]

theorem step_copy_st {P : Program} {ops : Array Oper} {o : Oper} {a : Act} {w : World} {K : Act → World → Prop} {Q : Exit → Act → World → Prop} {E : Prop} (hgd : o.guard = none) (d x : Operand) (dT sT : TypeId)
    (ho : o.op = .call { callee := .builtin .copy, args := #[d, x], argTypes := #[dT, sT] }) (elem : TypeId) (hu : P.underlying dT = some (.slice elem)) (hsz : (P.info? elem).map (·.size) = some 1)
    (g N dCap : Nat) (s : ByteArray) (hd : a.eval d = .slice (some ⟨g, 0, none⟩) N dCap) (hs : a.eval x = .string s)
    (h : Nat → Int) (t : TypeId) (hg : w.heap[g]? = some (.cells (vals h N).toArray t (0, 0))) (m : Nat) (f : Nat → Int) (hS : St s m f)
    (B : Nat) (w0 : World) (hb : Below B w0 w) (hBg : B ≤ g)
    (hk : ∀ w', Hid (w'.heap[g]? = some (.cells (vals (ovl f m h) N).toArray t (0, 0))) → Below B w0 w' → K (a.put o.dst (.int .i64 (min m N : Nat))) w') :
    if Region.wanted o (yielded ops a.tmps) = true then Oper.wp P o a w K Q else E := by
  have hw : Region.wanted o (yielded ops a.tmps) = true := by simp [Region.wanted, hgd]
  rw [if_pos hw]
  have hrun := run_copy_st (P := P) w dT sT o.type elem g N dCap s m f hS h t hu hsz hg
  unfold Oper.wp
  simp [execOp, ho, resolve, invoke, builtin, hd, hs, hrun, Result.andThen]
  exact hk _ (setRow_heap w g _ _ t _ hg) (below_setRow hb hBg _)
end Go.Proofs.Ytbcanfelfdalbaa

/-
  A string's bytes as a slice of the call's own ('[]byte(s)'). No program is named here.
-/
namespace Go.Proofs.Ytbcanfelfdalbaa
open Go.RowKit

theorem conv_bytes {P : Program} (w : World) (src dst e : TypeId) (hs : P.underlying src = some .string) (hd : P.underlying dst = some (.slice e)) (he : P.underlying e = some (.int .u8)) {s : ByteArray} {n : Nat} {f : Nat → Int} (hS : St s n f) (hn : n ≤ maxLen) :
    ∃ c w', (convert src dst (.string s)).run P w = .ok (.slice (some ⟨w.heap.size, 0, none⟩) n c) w' ∧ Sl w' (some ⟨w.heap.size, 0, none⟩) n c f ∧ Below w.heap.size w w' ∧ w'.heap.size = w.heap.size + 1 := by
  have hz := hS.size
  refine ⟨grownCap w s.size 0 e, Lib.bytesWorld w e s, ?_, ?_, ?_, Lib.bytesWorld_size w e s⟩
  · rw [← hz]; exact Lib.run_convert_string_bytes w src dst e s hs hd he
  · refine ⟨by rw [← hz]; exact grownCap_ge w _ 0 e, grownCap_le_maxLen w _ 0 e (by rw [hz]; exact hn), hS.bd, fun h => absurd h (by simp), fun _ => ⟨_, _, rfl, by rw [Lib.bytesWorld_size]; omega, fun i hi => ?_⟩⟩
    rw [Nat.zero_add, Lib.bytesWorld_cell w e s i (by omega)]
    have := hS.get i (by omega)
    rw [← this]
    have hi' : i < s.data.size := by have : s.size = s.data.size := rfl; omega
    rw [List.getD_eq_getElem?_getD, Array.getElem?_toList, Array.getElem?_eq_getElem hi']
    rfl
  · refine ⟨rfl, rfl, rfl, by rw [Lib.bytesWorld_size]; omega, fun k hk => Lib.bytesWorld_at_old w e s k hk⟩
end Go.Proofs.Ytbcanfelfdalbaa
