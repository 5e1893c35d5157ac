/-
  Several texts in one: Base, Own, App, Sl, St, Sb, SlX, Ts.
-/
import Derived.WalkKit
import Derived.WalkSpells
import Derived.WalkLawsBesides
import Derived.Deep.AppendLies
import Derived.Deep.Onto
import Derived.Laws.AppendOwnNone
import Derived.Maps.AppendAt
import Derived.RegionTactic
import Derived.OpenShut
/-
  Small helpers that every walk uses. No program is named here.
-/
namespace Go.Proofs.YtecbmonbeogdjaaDoor
open Go.RowKit

theorem hid {p : Prop} (h : p) : Hid p := h
theorem ret_int {k : IntKind} {a b : Int} (h : a = b) : Ending.returned (.int k a) = .returned (.int k b) := by rw [h]
theorem ret_bool {a b : Bool} (h : a = b) : Ending.returned (.bool a) = .returned (.bool b) := by rw [h]
/-- All old cells and old marks read as before. -/
theorem bcell {W w1 : World} (hb : Below W.heap.size W w1) : (∀ b o, b < W.heap.size → w1.cell? ⟨b, o, none⟩ = W.cell? ⟨b, o, none⟩) ∧ (∀ b o, b < W.heap.size → w1.frozen? ⟨b, o, none⟩ = W.frozen? ⟨b, o, none⟩) :=
  ⟨fun b o h => hb.cell (p := ⟨b, o, none⟩) h, fun b o h => hb.frozen (p := ⟨b, o, none⟩) h⟩
theorem i64_in {n : Int} (h0 : -9223372036854775808 ≤ n) (h1 : n ≤ 9223372036854775807) : IntKind.i64.wrap n = n := by rw [IntKind.wrap_i64]; omega
end Go.Proofs.YtecbmonbeogdjaaDoor

/-
  Rows of a call's own, carried over calls that leave old memory alone. No program is named here.
-/
namespace Go.Proofs.YtecbmonbeogdjaaDoor
open Go.RowKit

theorem own_below {w w' : World} {base : Nat} {e : TypeId} {size : Nat} {v : Value} {n : Nat} {xs : List Value} (h : w.ownsRow base e size v n xs) (hb : Below w.heap.size w w') : w'.ownsRow base e size v n xs := by
  refine ⟨h.1, ?_⟩
  rcases h.2 with hn | ⟨g, cap, cur, hv, hB, hg, rest⟩
  · exact .inl hn
  · refine .inr ⟨g, cap, cur, hv, hB, ?_, rest⟩
    rw [hb.block g (Array.getElem?_eq_some_iff.1 hg).1]
    exact hg
end Go.Proofs.YtecbmonbeogdjaaDoor

/-
  'append(own, x...)' for whatever slice x: nil, empty or not: one law for the plain walk and one for a region that draws its order. No program is named here.
-/
namespace Go.Proofs.YtecbmonbeogdjaaDoor
open Go.RowKit

/-- What is appended: m elements of 'size' cells each, whose values are 'news'. -/
structure Src (w : World) (ao : Option Addr) (m c size : Nat) (news : List Value) : Prop where
  len : news.length = m * size
  one : ∀ u ∈ news, u.oneCell' = true
  nil : ao = none → m = 0 ∧ c = 0
  cells : ∀ ad, ao = some ad → ∀ j u, news[j]? = some u → w.cell? (ad.add j) = some u

section
variable {P : Program} {w : World}
theorem run_append_src (base : Nat) (t ty e : TypeId) (i : TypeInfo) (z : Value) (size bytes : Nat) (ht : P.underlying t = some (.slice e)) (hi : P.info? e = some i) (hz : i.zero = some z)
    (hsize : i.size = size) (hby : i.bytes = bytes) (hzs : z.cells.size = size) (hsz : 0 < size)
    (v : Value) (n : Nat) (xs : List Value) (hown : w.ownsRow base e size v n xs) (ao : Option Addr) (m c : Nat) (news : List Value) (hsrc : Src w ao m c size news)
    (h63 : n + m ≤ maxLen) (hbytes : (n + m) * bytes ≤ 140737488355328) (hbase : base ≤ w.heap.size) :
    ∃ v' w', (Builtin.append_ #[t, t] ty #[v, .slice ao m c]).run P w = .ok v' w' ∧ w'.ownsRow base e size v' (n + m) (xs ++ news) ∧ w.grownBy w' v.ownBlock ∧ (v'.ownBlock = v.ownBlock ∨ v'.ownBlock = some w.heap.size) := by
  cases ao with
  | none =>
    obtain ⟨rfl, rfl⟩ := hsrc.nil rfl
    have hn : news = [] := List.eq_nil_of_length_eq_zero (by simpa using hsrc.len)
    subst hn
    refine ⟨v, w, run_append_owned_none (P := P) (w := w) base t ty e i size ht hi v n xs hown, ?_, World.grownBy.refl _ _, Or.inl rfl⟩
    rw [Nat.add_zero, List.append_nil]
    exact hown
  | some ad =>
    obtain ⟨v', w', hr, h2, h3, _, h5⟩ := run_append_own_at (P := P) w base t ty e i z size bytes ht hi hz hsize hby hzs hsz v n xs hown ad m c news hsrc.len (hsrc.cells ad rfl) hsrc.one h63 hbytes hbase
    exact ⟨v', w', hr, h2, h3, h5⟩

theorem wp_append_src {o : Oper} {a : Act} {K : Act → World → Prop} {Q : Exit → Act → World → Prop} (s x : Operand) (t : TypeId)
    (ho : o.op = .call { callee := .builtin .append, args := #[s, x], argTypes := #[t, t] })
    (base : Nat) (e : TypeId) (i : TypeInfo) (z : Value) (size bytes : Nat) (ht : P.underlying t = some (.slice e)) (hi : P.info? e = some i) (hz : i.zero = some z)
    (hsize : i.size = size) (hby : i.bytes = bytes) (hzs : z.cells.size = size) (hsz : 0 < size)
    (v : Value) (n : Nat) (xs : List Value) (hs : a.eval s = v) (hown : w.ownsRow base e size v n xs) (ao : Option Addr) (m c : Nat) (news : List Value) (hx : a.eval x = .slice ao m c) (hsrc : Src w ao m c size news)
    (h63 : n + m ≤ maxLen) (hbytes : (n + m) * bytes ≤ 140737488355328) (hbase : base ≤ w.heap.size)
    (h : ∀ v' w', w'.ownsRow base e size v' (n + m) (xs ++ news) → w.grownBy w' v.ownBlock → (v'.ownBlock = v.ownBlock ∨ v'.ownBlock = some w.heap.size) → K (a.put o.dst v') w') : o.wp P a w K Q := by
  obtain ⟨v', w', hr, h2, h3, h4⟩ := run_append_src (P := P) (w := w) base t o.type e i z size bytes ht hi hz hsize hby hzs hsz v n xs hown ao m c news hsrc h63 hbytes hbase
  unfold Oper.wp execOp
  simp only [ho, resolve, invoke, builtin, Sem.run_bind, Sem.run_pure, Result.andThen_ok, List.map_toArray, List.map_cons, List.map_nil, hs, hx, hr]
  exact h v' w' h2 h3 h4

theorem wpList_append_src {ops : Array Oper} {rest : List Oper} {o : Oper} {a : Act} {Q : Exit → Act → World → Prop} (hgd : o.guard = none) (s x : Operand) (t : TypeId)
    (ho : o.op = .call { callee := .builtin .append, args := #[s, x], argTypes := #[t, t] })
    (base : Nat) (e : TypeId) (i : TypeInfo) (z : Value) (size bytes : Nat) (ht : P.underlying t = some (.slice e)) (hi : P.info? e = some i) (hz : i.zero = some z)
    (hsize : i.size = size) (hby : i.bytes = bytes) (hzs : z.cells.size = size) (hsz : 0 < size)
    (v : Value) (n : Nat) (xs : List Value) (hs : a.eval s = v) (hown : w.ownsRow base e size v n xs) (ao : Option Addr) (m c : Nat) (news : List Value) (hx : a.eval x = .slice ao m c) (hsrc : Src w ao m c size news)
    (h63 : n + m ≤ maxLen) (hbytes : (n + m) * bytes ≤ 140737488355328) (hbase : base ≤ w.heap.size)
    (h : ∀ v' w', w'.ownsRow base e size v' (n + m) (xs ++ news) → w.grownBy w' v.ownBlock → (v'.ownBlock = v.ownBlock ∨ v'.ownBlock = some w.heap.size) → wpList P ops Q rest (a.put o.dst v') w') : wpList P ops Q (o :: rest) a w :=
  wpList_plain hgd fun _ hK => wp_append_src s x t ho base e i z size bytes ht hi hz hsize hby hzs hsz v n xs hs hown ao m c news hx hsrc h63 hbytes hbase fun v' w' h2 h3 h4 => hK _ _ (h v' w' h2 h3 h4)

theorem step_append_src {ops : Array Oper} {o : Oper} {a : Act} {K : Act → World → Prop} {Q : Exit → Act → World → Prop} {E : Prop} (hgd : o.guard = none) (s x : Operand) (t : TypeId)
    (ho : o.op = .call { callee := .builtin .append, args := #[s, x], argTypes := #[t, t] })
    (base : Nat) (e : TypeId) (i : TypeInfo) (z : Value) (size bytes : Nat) (ht : P.underlying t = some (.slice e)) (hi : P.info? e = some i) (hz : i.zero = some z)
    (hsize : i.size = size) (hby : i.bytes = bytes) (hzs : z.cells.size = size) (hsz : 0 < size)
    (v : Value) (n : Nat) (xs : List Value) (hs : a.eval s = v) (hown : w.ownsRow base e size v n xs) (ao : Option Addr) (m c : Nat) (news : List Value) (hx : a.eval x = .slice ao m c) (hsrc : Src w ao m c size news)
    (h63 : n + m ≤ maxLen) (hbytes : (n + m) * bytes ≤ 140737488355328) (hbase : base ≤ w.heap.size)
    (h : ∀ v' w', w'.ownsRow base e size v' (n + m) (xs ++ news) → w.grownBy w' v.ownBlock → (v'.ownBlock = v.ownBlock ∨ v'.ownBlock = some w.heap.size) → K (a.put o.dst v') w') :
    if Region.wanted o (yielded ops a.tmps) = true then Oper.wp P o a w K Q else E := by
  have hw : Region.wanted o (yielded ops a.tmps) = true := by simp [Region.wanted, hgd]
  rw [if_pos hw]
  exact wp_append_src s x t ho base e i z size bytes ht hi hz hsize hby hzs hsz v n xs hs hown ao m c news hx hsrc h63 hbytes hbase h
end

theorem Src.below {w w' : World} {ao : Option Addr} {m c size : Nat} {news : List Value} (h : Src w ao m c size news) (hb : Below w.heap.size w w') : Src w' ao m c size news :=
  ⟨h.len, h.one, h.nil, fun ad ha j u hu => by
    have hc := h.cells ad ha j u hu
    rw [hb.cell (World.block_lt_of_cell? _ _ hc)]; exact hc⟩
/-- A block that is known whole, as what is appended. -/
theorem Src.block {w : World} {B m size : Nat} {cs : Array Value} {t : TypeId} {fr : Nat × Nat} (hb : w.heap[B]? = some (.cells cs t fr)) (hl : cs.size = m * size) (h1 : ∀ u ∈ cs.toList, u.oneCell' = true) : Src w (some ⟨B, 0, none⟩) m m size cs.toList :=
  ⟨by simpa using hl, h1, fun e => absurd e (by simp), fun ad ha j u hu => by cases ha; exact World.news_of_block hb j u hu⟩
theorem Src.grown {w w' : World} {ad : Addr} {m c size : Nat} {news : List Value} {row : Option Nat} (h : Src w (some ad) m c size news) (hg : w.grownBy w' row) (hne : some ad.block ≠ row) : Src w' (some ad) m c size news :=
  ⟨h.len, h.one, h.nil, fun ad' ha j u hu => by
    cases ha
    have hc := h.cells ad rfl j u hu
    exact hg.cell hc (by unfold Addr.add; split <;> exact hne)⟩
/-- A new, empty row of the call's own, its block said by another term. -/
theorem own_empty {w : World} {base : Nat} {e : TypeId} {size : Nat} (b : Nat) (hb : b = w.heap.size) (h : base ≤ w.heap.size) : (w.alloc (.cells #[] e)).ownsRow base e size (.slice (some ⟨b, 0, none⟩) 0 0) 0 [] := by
  subst hb
  exact World.ownsRow_lit w #[] 0 h (by decide) (by simp)
/-- A new block, as what is appended, its number said by another term. -/
theorem Src.new {w : World} {m size : Nat} (cs : Array Value) (t : TypeId) (b : Nat) (hb : b = w.heap.size) (hl : cs.size = m * size) (h1 : ∀ u ∈ cs.toList, u.oneCell' = true) : Src (w.alloc (.cells cs t)) (some ⟨b, 0, none⟩) m m size cs.toList := by
  subst hb
  exact Src.block (heap_alloc_new w _) hl h1
end Go.Proofs.YtecbmonbeogdjaaDoor

/-
  Slices of bytes told by a function (f i: the byte at place i), and what an append to a row of the call's own makes of them. No program is named here.
-/
namespace Go.Proofs.YtecbmonbeogdjaaDoor
open Go.RowKit

/-- A slice of bytes: nil, or it leads to cells that hold what f tells. -/
structure Sl (w : World) (a : Option Addr) (n cap : Nat) (f : Nat → Int) : Prop where
  le : n ≤ cap
  mx : cap ≤ maxLen
  bd : ∀ i, 0 ≤ f i ∧ f i ≤ 255
  nil : a = none → n = 0 ∧ cap = 0
  at' : 0 < n → ∃ b off, a = some ⟨b, off, none⟩ ∧ b < w.heap.size ∧ ∀ i, i < n → w.cell? ⟨b, off + i, none⟩ = some (.int .u8 (f i))

theorem Sl.below {w w' : World} {a : Option Addr} {n cap : Nat} {f : Nat → Int} (h : Sl w a n cap f) (hb : Below w.heap.size w w') : Sl w' a n cap f :=
  ⟨h.le, h.mx, h.bd, h.nil, fun hn => by
    obtain ⟨b, off, rfl, hlt, hc⟩ := h.at' hn
    exact ⟨b, off, rfl, Nat.lt_of_lt_of_le hlt hb.size, fun i hi => by rw [hb.cell (p := ⟨b, off + i, none⟩) hlt]; exact hc i hi⟩⟩

/-- The values of n bytes. -/
def vals (f : Nat → Int) (n : Nat) : List Value := (List.range n).map fun i => .int .u8 (f i)
theorem vals_length (f : Nat → Int) (n : Nat) : (vals f n).length = n := by simp [vals]
theorem vals_get (f : Nat → Int) (n i : Nat) (h : i < n) : (vals f n)[i]? = some (.int .u8 (f i)) := by simp [vals, h]
theorem vals_get_inv {f : Nat → Int} {n i : Nat} {u : Value} (h : (vals f n)[i]? = some u) : i < n ∧ u = .int .u8 (f i) := by
  have hi : i < n := by
    have := (List.getElem?_eq_some_iff.1 h).1
    rwa [vals_length] at this
  rw [vals_get f n i hi] at h
  exact ⟨hi, (Option.some.inj h).symm⟩
theorem vals_one (f : Nat → Int) (n : Nat) : ∀ u ∈ vals f n, u.oneCell' = true := by
  intro u hu
  simp only [vals, List.mem_map] at hu
  obtain ⟨i, _, rfl⟩ := hu
  rfl
/-- Bytes behind others. -/
def cat (f : Nat → Int) (n : Nat) (g : Nat → Int) : Nat → Int := fun i => if i < n then f i else g (i - n)
theorem cat_lt {f g : Nat → Int} {n i : Nat} (h : i < n) : cat f n g i = f i := by simp [cat, h]
theorem cat_ge {f g : Nat → Int} {n i : Nat} (h : n ≤ i) : cat f n g i = g (i - n) := by unfold cat; rw [if_neg (by omega)]
theorem cat_bd {f g : Nat → Int} {n : Nat} (hf : ∀ i, 0 ≤ f i ∧ f i ≤ 255) (hg : ∀ i, 0 ≤ g i ∧ g i ≤ 255) (i : Nat) : 0 ≤ cat f n g i ∧ cat f n g i ≤ 255 := by
  unfold cat; split
  · exact hf i
  · exact hg _
theorem cat_zero (f g : Nat → Int) : cat f 0 g = g := by funext i; simp [cat]
theorem vals_cat (f g : Nat → Int) (n m : Nat) : vals f n ++ vals g m = vals (cat f n g) (n + m) := by
  apply List.ext_getElem?
  intro i
  by_cases h : i < n
  · rw [List.getElem?_append_left (by rw [vals_length]; exact h), vals_get _ _ _ h, vals_get _ _ _ (by omega), cat_lt h]
  · rw [List.getElem?_append_right (by rw [vals_length]; omega), vals_length]
    by_cases h2 : i < n + m
    · rw [vals_get _ _ _ (by omega), vals_get _ _ _ h2, cat_ge (by omega)]
    · rw [List.getElem?_eq_none (by rw [vals_length]; omega), List.getElem?_eq_none (by rw [vals_length]; omega)]
theorem vals_congr {f g : Nat → Int} {n : Nat} (h : ∀ i, i < n → f i = g i) : vals f n = vals g n := by
  unfold vals
  apply List.map_congr_left
  intro i hi
  rw [h i (by simpa using hi)]

/-- A row of the call's own, as a slice. -/
theorem Sl.own {w : World} {base : Nat} {e : TypeId} {v : Value} {n : Nat} {f : Nat → Int} (h : w.ownsRow base e 1 v n (vals f n)) (hf : ∀ i, 0 ≤ f i ∧ f i ≤ 255) :
    ∃ a cap, v = .slice a n cap ∧ Sl w a n cap f := by
  obtain ⟨hl, h⟩ := h
  rcases h with ⟨rfl, rfl⟩ | ⟨g, cap, cur, rfl, hb, hg, hn, hm, hs, ht⟩
  · exact ⟨none, 0, rfl, ⟨Nat.le_refl _, Nat.zero_le _, hf, fun _ => ⟨rfl, rfl⟩, fun h => absurd h (by omega)⟩⟩
  · refine ⟨_, cap, rfl, ⟨hn, hm, hf, fun h => absurd h (by simp), fun h0 => ⟨g, 0, rfl, ?_, fun i hi => ?_⟩⟩⟩
    · have := (Array.getElem?_eq_some_iff.1 hg).1
      exact this
    · have e1 : (cur.toList.take (n * 1))[i]? = some (.int .u8 (f i)) := by rw [ht]; exact vals_get f n i hi
      rw [List.getElem?_take_of_lt (by omega)] at e1
      have e2 : cur[i]? = some (.int .u8 (f i)) := by simpa using e1
      simp [World.cell?, hg, e2]

/-- 'append(own, x...)' for whatever slice of bytes x. -/
theorem wpList_append_sl {P : Program} {w : World} {ops : Array Oper} {rest : List Oper} {o : Oper} {a : Act} {Q : Exit → Act → World → Prop} (hgd : o.guard = none) (s x : Operand) (t : TypeId)
    (ho : o.op = .call { callee := .builtin .append, args := #[s, x], argTypes := #[t, t] })
    (base : Nat) (e : TypeId) (i : TypeInfo) (ht : P.underlying t = some (.slice e)) (hi : P.info? e = some i) (hz : i.zero = some (.int .u8 0)) (hsize : i.size = 1) (hby : i.bytes = 1)
    (v : Value) (n : Nat) (f : Nat → Int) (hs : a.eval s = v) (hown : w.ownsRow base e 1 v n (vals f n))
    (ao : Option Addr) (m c : Nat) (g : Nat → Int) (hx : a.eval x = .slice ao m c) (hsl : Sl w ao m c g) (h63 : n + m ≤ 140737488355328) (hbase : base ≤ w.heap.size)
    (h : ∀ v' w', w'.ownsRow base e 1 v' (n + m) (vals (cat f n g) (n + m)) → w.grownBy w' v.ownBlock → wpList P ops Q rest (a.put o.dst v') w') : wpList P ops Q (o :: rest) a w := by
  cases ao with
  | none =>
    obtain ⟨rfl, rfl⟩ := hsl.nil rfl
    refine wpList_append_own_none hgd s x t ho base e i 1 ht hi v n (vals f n) hs hown hx ?_
    refine h v w ?_ (World.grownBy.refl _ _)
    rw [Nat.add_zero, vals_congr (g := f) (fun i hi => cat_lt hi)]
    exact hown
  | some ad =>
    refine wpList_append_own (w := w) hgd s x t ho base e i (.int .u8 0) 1 1 ht hi hz hsize hby rfl (by omega) v n (vals f n) hs hown ad m c (vals g m) hx (by rw [vals_length, Nat.mul_one]) ?_ (vals_one g m) (by unfold maxLen; omega) (by omega) hbase ?_
    · intro j u hj
      obtain ⟨hlt, rfl⟩ := vals_get_inv hj
      obtain ⟨b, off, hab, _, hc⟩ := hsl.at' (by omega)
      cases hab
      rw [Addr.add_lit]; exact hc j hlt
    · intro v' w' h1 h2 _
      rw [vals_cat] at h1
      exact h v' w' h1 h2

end Go.Proofs.YtecbmonbeogdjaaDoor

/-
  Strings told by a function (f i: the byte at place i). No program is named here.
-/
namespace Go.Proofs.YtecbmonbeogdjaaDoor
open Go.RowKit

/-- A string of n bytes that f tells. -/
structure St (s : ByteArray) (n : Nat) (f : Nat → Int) : Prop where
  size : s.size = n
  get : ∀ i (h : i < s.size), ((s[i]'h).toNat : Int) = f i
  bd : ∀ i, 0 ≤ f i ∧ f i ≤ 255

def str (f : Nat → Int) (n : Nat) : ByteArray := strOfNums ((List.range n).map f)
theorem str_size (f : Nat → Int) (n : Nat) : (str f n).size = n := by simp [str, strOfNums_size]
theorem St.of {f : Nat → Int} (hf : ∀ i, 0 ≤ f i ∧ f i ≤ 255) (n : Nat) : St (str f n) n f := by
  refine ⟨str_size f n, fun i h => ?_, hf⟩
  rw [str_size] at h
  show (((strOfNums ((List.range n).map f)).data[i]'(by simpa [strOfNums] using h)).toNat : Int) = f i
  have := hf i
  simp [strOfNums]
  omega
theorem St.inj {s t : ByteArray} {n : Nat} {f : Nat → Int} (hs : St s n f) (ht : St t n f) : s = t := by
  have e1 := hs.size
  have e2 := ht.size
  apply ByteArray.ext
  apply Array.ext
  · show s.size = t.size
    omega
  · intro i h1 h2
    have a := hs.get i h1
    have b := ht.get i h2
    have c : (s[i]'h1).toNat = (t[i]'h2).toNat := by omega
    exact UInt8.toNat_inj.1 c
theorem St.eq_str {s : ByteArray} {n : Nat} {f : Nat → Int} (hs : St s n f) : s = str f n := hs.inj (St.of hs.bd n)
theorem St.congr {s : ByteArray} {n : Nat} {f g : Nat → Int} (hs : St s n f) (hg : ∀ i, 0 ≤ g i ∧ g i ≤ 255) (h : ∀ i, i < n → f i = g i) : St s n g :=
  ⟨hs.size, fun i hi => by rw [hs.get i hi]; exact h i (by rw [← hs.size]; exact hi), hg⟩
theorem str_congr {f g : Nat → Int} {n : Nat} (h : ∀ i, i < n → f i = g i) : str f n = str g n := by
  unfold str
  rw [List.map_congr_left (g := g) (fun i hi => h i (by simpa using hi))]
/-- Two strings that are one have the same bytes. -/
theorem St.same {s : ByteArray} {n m : Nat} {f g : Nat → Int} (hs : St s n f) (ht : St s m g) : n = m ∧ ∀ i, i < n → f i = g i :=
  ⟨by rw [← hs.size, ← ht.size], fun i hi => by
    have h : i < s.size := by rw [hs.size]; exact hi
    rw [← hs.get i h, ← ht.get i h]⟩
theorem St.extract {s : ByteArray} {n : Nat} {f : Nat → Int} (hs : St s n f) (i j : Nat) (hij : i ≤ j) (hj : j ≤ n) : St (s.extract i j) (j - i) (fun k => f (i + k)) := by
  have e := hs.size
  have hz : (s.extract i j).size = j - i := by rw [ByteArray.size_extract]; omega
  refine ⟨hz, fun k hk => ?_, fun k => hs.bd _⟩
  have := hs.get (i + k) (by omega)
  rw [← this, ByteArray.getElem_extract]
theorem St.append {s t : ByteArray} {n m : Nat} {f g : Nat → Int} (hs : St s n f) (ht : St t m g) : St (s ++ t) (n + m) (cat f n g) := by
  have e1 := hs.size
  have e2 := ht.size
  refine ⟨by rw [ByteArray.size_append]; omega, fun i h => ?_, cat_bd hs.bd ht.bd⟩
  by_cases hi : i < n
  · rw [cat_lt hi, ByteArray.getElem_append_left (by omega)]
    exact hs.get i (by omega)
  · rw [cat_ge (by omega), ByteArray.getElem_append_right (by omega)]
    rw [ByteArray.size_append] at h
    have := ht.get (i - n) (by omega)
    rw [← this]
    simp only [e1]

theorem toList_inj {a b : ByteArray} (h : a.toList = b.toList) : a = b := by
  rw [ByteArray.toList_eq, ByteArray.toList_eq] at h
  exact ByteArray.ext (Array.ext' h)
theorem St.beq_iff {a b : ByteArray} {n m : Nat} {f g : Nat → Int} (ha : St a n f) (hb : St b m g) : (a.toList == b.toList) = true ↔ n = m ∧ ∀ i, i < n → f i = g i := by
  rw [beq_iff_eq]
  constructor
  · intro h
    have e := toList_inj h
    subst e
    exact ha.same hb
  · rintro ⟨rfl, h⟩
    rw [(ha.congr hb.bd h).inj hb]
theorem St.beq_no {a b : ByteArray} {n m : Nat} {f g : Nat → Int} (ha : St a n f) (hb : St b m g) (h : ¬ (n = m ∧ ∀ i, i < n → f i = g i)) : (a.toList == b.toList) = false := by
  rw [← ha.beq_iff hb] at h
  simpa using h
/-- A slice of bytes as a string. -/
theorem run_convert_sl {P : Program} (w : World) (src e dst : TypeId) (hs : P.underlying src = some (.slice e)) (he : P.underlying e = some (.int .u8)) (hd : P.underlying dst = some .string) {a : Option Addr} {n cap : Nat} {f : Nat → Int} (h : Sl w a n cap f) :
    (convert src dst (.slice a n cap)).run P w = .ok (.string (str f n)) w := by
  by_cases hn : n = 0
  · subst hn
    cases a with
    | none => exact run_convert_bytes_nil w src e hs he 0 cap dst hd
    | some x =>
      rw [run_convert_bytes_string w src dst e _ 0 cap hs he hd, run_bytesToString w x 0 cap [] (by simpa using run_loadCells_list (P := P) w x [] (fun j v hj => by simp at hj))]
      rfl
  · obtain ⟨b, off, rfl, _, hc⟩ := h.at' (by omega)
    refine run_convert_bytes_arg w src e hs he b off n cap ((List.range n).map f) (by simp) (fun i hi => ?_) dst hd
    rw [hc i hi]
    simp [hi]
theorem range_getD (l : List Int) : (List.range l.length).map (fun i => l.getD i 0) = l := by
  apply List.ext_getElem
  · simp
  · intro i h1 h2
    simp [h2]
theorem str_list (l : List Int) (f : Nat → Int) (n : Nat) (hn : l.length = n) (hf : ∀ i, i < n → f i = l.getD i 0) : str f n = strOfNums l := by
  subst hn
  rw [str_congr hf]
  unfold str
  rw [range_getD]
/-- Bytes that were just laid, as a string. -/
theorem run_convert_new {P : Program} (w : World) (src e dst : TypeId) (hs : P.underlying src = some (.slice e)) (he : P.underlying e = some (.int .u8)) (hd : P.underlying dst = some .string) (l : List Int) (n : Nat) (hn : l.length = n) (t : TypeId) :
    (convert src dst (.slice (some ⟨w.heap.size, 0, none⟩) n n)).run P (w.alloc (.cells (l.map (Value.int .u8)).toArray t)) = .ok (.string (strOfNums l)) (w.alloc (.cells (l.map (Value.int .u8)).toArray t)) := by
  refine run_convert_bytes_arg _ src e hs he _ 0 n n l hn (fun i hi => ?_) dst hd
  rw [World.cell?_alloc_new]
  have h : i < l.length := by omega
  simp [h]
end Go.Proofs.YtecbmonbeogdjaaDoor

/-
  Any string, told by its bytes; what came in as a slice of bytes, opened. No program is named here.
-/
namespace Go.Proofs.YtecbmonbeogdjaaDoor
open Go.RowKit

def bytesF (s : ByteArray) (i : Nat) : Int := ((s.data.getD i 0).toNat : Nat)
theorem St.any (s : ByteArray) : St s s.size (bytesF s) := by
  refine ⟨rfl, fun i h => ?_, fun i => ?_⟩
  · unfold bytesF
    rw [show s.data.getD i 0 = s.data[i]'h by unfold Array.getD; rw [dif_pos (show i < s.data.size from h)]; rfl]
    rfl
  · unfold bytesF
    have := (s.data.getD i 0).toNat_lt
    omega

section
open Go.ChangeShapes Go.WideShapes
variable {H0 : Type} {enc : TypeId × Value → H0} {P : Program} {w : World} {base : Nat} {spare : Nat → Bool} {held : Bool}

theorem open_sl {r : Reach} {b0 : Nat} {t e : TypeId} {v : Value} {d : DataW H0} {p : List MemPlace} (ht : P.underlying t = some (.slice e)) (he : P.underlying e = some (.int .u8)) (hc : P.cellsOf e = 1)
    (hv : Value.okWide P w r b0 t v) (h : DataW.Trod enc P w base spare held t v d p) : ∃ a n c f, v = .slice a n c ∧ Sl w a n c f := by
  obtain ⟨a, n, c, rfl⟩ := okWide_slice ht hv
  obtain ⟨fuel, hf⟩ := h
  rcases open_ints ht he hc hf with ⟨hcs, _⟩ | ⟨x, l, k, zs, hcs, _, hl, hm, hz, _, hcell, hwz⟩
  · simp [Value.cells] at hcs
    obtain ⟨rfl, rfl, rfl⟩ := hcs
    exact ⟨none, 0, 0, fun _ => 0, rfl, Nat.le_refl _, Nat.zero_le _, fun i => by simp, fun _ => ⟨rfl, rfl⟩, fun h => absurd h (by omega)⟩
  · simp [Value.cells] at hcs
    obtain ⟨rfl, rfl, rfl⟩ := hcs
    have hln : n ≤ zs.length := by rw [hz]; split <;> omega
    refine ⟨some x, n, c, fun i => zs.getD i 0, rfl, hl, hm, fun i => ?_, fun h => absurd h (by simp), fun h0 => ?_⟩
    · by_cases hi : i < zs.length
      · have hw := hwz (zs.getD i 0) (by rw [List.getD_eq_getElem?_getD, List.getElem?_eq_getElem hi]; exact List.getElem_mem hi)
        simp [Lit.wf, IntKind.min, IntKind.max, IntKind.signed, IntKind.bits] at hw
        simpa using hw
      · rw [List.getD_eq_getElem?_getD, List.getElem?_eq_none (by omega)]; simp
    · obtain ⟨b, off, spot⟩ := x
      have hs : spot = none := by
        have := World.cell?_spot (hcell 0 (by omega))
        simpa [Addr.add] using this
      subst hs
      have hc : ∀ i, i < n → w.cell? ⟨b, off + i, none⟩ = some (.int .u8 (zs.getD i 0)) := fun i hi => by
        have := hcell i (by omega)
        rwa [Addr.add_lit] at this
      exact ⟨b, off, rfl, World.block_lt_of_cell? _ _ (hc 0 h0), hc⟩
end
end Go.Proofs.YtecbmonbeogdjaaDoor

/-
  More on slices of bytes and strings told by functions: parts of them, rows of few bytes, a string with a byte more, an answer that says whether a proposition holds. No program is named here.
-/
namespace Go.Proofs.YtecbmonbeogdjaaDoor
open Go.RowKit

theorem Sl.cut {w : World} {b off n cap : Nat} {f : Nat → Int} (h : Sl w (some ⟨b, off, none⟩) n cap f) (i : Nat) (hi : i < n) : Sl w (some ⟨b, off + i, none⟩) (n - i) (cap - i) (fun j => f (i + j)) := by
  have h1 := h.le
  have h2 := h.mx
  refine ⟨by omega, by omega, fun j => h.bd _, fun e => absurd e (by simp), fun h0 => ⟨b, off + i, rfl, ?_, fun j hj => ?_⟩⟩
  · obtain ⟨b', off', e, hlt, _⟩ := h.at' (by omega)
    cases e; exact hlt
  · obtain ⟨b', off', e, _, hc⟩ := h.at' (by omega)
    cases e
    rw [Nat.add_assoc]; exact hc (i + j) (by omega)

theorem Sl.drew {w : World} {a : Option Addr} {n cap : Nat} {f : Nat → Int} (h : Sl w a n cap f) : Sl w.drew a n cap f := ⟨h.le, h.mx, h.bd, h.nil, h.at'⟩

theorem cell_of_row {w : World} {B : Nat} {h : Nat → Int} {N : Nat} {t : TypeId} {fr : Nat × Nat} (hg : w.heap[B]? = some (.cells (vals h N).toArray t fr)) (j : Nat) (hj : j < N) : w.cell? ⟨B, j, none⟩ = some (.int .u8 (h j)) := by
  have := vals_get h N j hj
  simp [World.cell?, hg, this]

/-- Four bytes that were just laid, as a slice. -/
theorem Sl.four {w : World} {x0 x1 x2 x3 : Int} (t : TypeId) (g : Nat → Int) (hg : ∀ i, 0 ≤ g i ∧ g i ≤ 255) (h0 : x0 = g 0) (h1 : x1 = g 1) (h2 : x2 = g 2) (h3 : x3 = g 3) : Sl (w.alloc (.cells #[.int .u8 x0, .int .u8 x1, .int .u8 x2, .int .u8 x3] t)) (some ⟨w.heap.size, 0, none⟩) 4 4 g := by
  refine ⟨Nat.le_refl _, by decide, hg, fun e => absurd e (by simp), fun _ => ⟨w.heap.size, 0, rfl, by simp, fun i hi => ?_⟩⟩
  subst h0 h1 h2 h3
  obtain rfl | rfl | rfl | rfl : i = 0 ∨ i = 1 ∨ i = 2 ∨ i = 3 := by omega
  all_goals simp

/-- Some of three bytes that were just laid, as a slice. -/
theorem Sl.three {w : World} {x0 x1 x2 : Int} (t : TypeId) (g : Nat → Int) (n : Nat) (hn : n ≤ 3) (hg : ∀ i, 0 ≤ g i ∧ g i ≤ 255) (h0 : x0 = g 0) (h1 : x1 = g 1) (h2 : x2 = g 2) : Sl (w.alloc (.cells #[.int .u8 x0, .int .u8 x1, .int .u8 x2] t)) (some ⟨w.heap.size, 0, none⟩) n 3 g := by
  refine ⟨hn, by decide, hg, fun e => absurd e (by simp), fun _ => ⟨w.heap.size, 0, rfl, by simp, fun i hi => ?_⟩⟩
  subst h0 h1 h2
  obtain rfl | rfl | rfl : i = 0 ∨ i = 1 ∨ i = 2 := by omega
  all_goals simp

theorem Sl.one {w : World} {x0 : Int} (t : TypeId) (g : Nat → Int) (hg : ∀ i, 0 ≤ g i ∧ g i ≤ 255) (h0 : x0 = g 0) : Sl (w.alloc (.cells #[.int .u8 x0] t)) (some ⟨w.heap.size, 0, none⟩) 1 1 g := by
  refine ⟨Nat.le_refl _, by decide, hg, fun e => absurd e (by simp), fun _ => ⟨w.heap.size, 0, rfl, by simp, fun i hi => ?_⟩⟩
  subst h0
  obtain rfl : i = 0 := by omega
  simp

theorem Sl.first {w : World} {a : Option Addr} {n cap : Nat} {f : Nat → Int} (h : Sl w a n cap f) (m : Nat) (hm : m ≤ n) : Sl w a m cap f :=
  ⟨Nat.le_trans hm h.le, h.mx, h.bd, fun e => ⟨by have := (h.nil e).1; omega, (h.nil e).2⟩, fun h0 => by
    obtain ⟨b, off, e, hlt, hc⟩ := h.at' (by omega)
    exact ⟨b, off, e, hlt, fun i hi => hc i (by omega)⟩⟩

theorem str_snoc {f : Nat → Int} (hf : ∀ i, 0 ≤ f i ∧ f i ≤ 255) (m : Nat) (x : Int) (hx : x = f m) : str f m ++ str (fun _ => x) 1 = str f (m + 1) := by
  subst hx
  have h := (St.of hf m).append (St.of (f := fun _ => f m) (fun _ => hf m) 1)
  refine (h.congr hf (fun i hi => ?_)).inj (St.of hf (m + 1))
  by_cases e : i < m
  · rw [cat_lt e]
  · rw [cat_ge (by omega), show i = m by omega]

/-- The answer is whether p holds. -/
def Says (e : Ending) (p : Prop) : Prop := ∃ b, e = .returned (.bool b) ∧ (b = true ↔ p)
theorem Says.yes {p : Prop} (h : p) : Says (.returned (.bool true)) p := ⟨true, rfl, by simp [h]⟩
theorem Says.no {p : Prop} (h : ¬ p) : Says (.returned (.bool false)) p := ⟨false, rfl, by simp [h]⟩
theorem Says.of {e : Ending} {p : Prop} (h : Says e p) : (e = .returned (.bool true) ∧ p) ∨ (e = .returned (.bool false) ∧ ¬ p) := by
  obtain ⟨b, rfl, hb⟩ := h
  cases b
  · exact Or.inr ⟨rfl, fun q => by simpa using hb.2 q⟩
  · exact Or.inl ⟨rfl, hb.1 rfl⟩

theorem St.get? {s : ByteArray} {n : Nat} {f : Nat → Int} (h : St s n f) {i : Nat} (hi : i < n) : ∃ x : UInt8, s.toList[i]? = some x ∧ (x.toNat : Int) = f i := by
  have hi' : i < s.size := by rw [h.size]; exact hi
  refine ⟨s[i]'hi', ?_, h.get i hi'⟩
  rw [ByteArray.toList_eq, Array.getElem?_toList]
  exact Array.getElem?_eq_getElem hi'
theorem St.length {s : ByteArray} {n : Nat} {f : Nat → Int} (h : St s n f) : s.toList.length = n := by
  rw [ByteArray.toList_eq, Array.length_toList]; exact h.size

theorem St.isEmpty_no {s : ByteArray} {n : Nat} {f : Nat → Int} (h : St s n f) (hn : 0 < n) : s.toList.isEmpty = false := by
  cases e : s.toList with
  | nil => have := h.length; rw [e] at this; simp at this; omega
  | cons => rfl

theorem St.isEmpty_yes {s : ByteArray} {f : Nat → Int} (h : St s 0 f) : s.toList.isEmpty = true := by
  cases e : s.toList with
  | nil => rfl
  | cons => have := h.length; rw [e] at this; simp at this
end Go.Proofs.YtecbmonbeogdjaaDoor

/-
  Rows of texts: what lies in memory, told by lists of strings; and strings as lists of bytes. No program is named here.
-/
namespace Go.Proofs.YtecbmonbeogdjaaDoor
open Go.RowKit

/-- Texts as values. -/
def tv (xs : List ByteArray) : List Value := xs.map Value.string
theorem tv_length (xs : List ByteArray) : (tv xs).length = xs.length := by simp [tv]
theorem tv_append (xs ys : List ByteArray) : tv xs ++ tv ys = tv (xs ++ ys) := by simp [tv]
theorem tv_one (xs : List ByteArray) : ∀ u ∈ tv xs, u.oneCell' = true := by
  intro u hu
  simp only [tv, List.mem_map] at hu
  obtain ⟨i, _, rfl⟩ := hu
  rfl
/-- The text at a place. -/
def at_ (xs : List ByteArray) (i : Nat) : ByteArray := xs.getD i ⟨#[]⟩
theorem tv_get (xs : List ByteArray) (i : Nat) (h : i < xs.length) : (tv xs)[i]? = some (.string (at_ xs i)) := by simp [tv, at_, h]

/-- A slice of texts: nil, or it leads to cells that hold them. -/
structure Ts (w : World) (a : Option Addr) (n cap : Nat) (xs : List ByteArray) : Prop where
  len : xs.length = n
  le : n ≤ cap
  mx : cap ≤ maxLen
  nil : a = none → n = 0 ∧ cap = 0
  at' : 0 < n → ∃ b off, a = some ⟨b, off, none⟩ ∧ b < w.heap.size ∧ ∀ i, i < n → w.cell? ⟨b, off + i, none⟩ = some (.string (at_ xs i))
theorem Ts.below {w w' : World} {a : Option Addr} {n cap : Nat} {xs : List ByteArray} (h : Ts w a n cap xs) (hb : Below w.heap.size w w') : Ts w' a n cap xs :=
  ⟨h.len, h.le, h.mx, h.nil, fun hn => by
    obtain ⟨b, off, rfl, hlt, hc⟩ := h.at' hn
    exact ⟨b, off, rfl, Nat.lt_of_lt_of_le hlt hb.size, fun i hi => by rw [hb.cell (p := ⟨b, off + i, none⟩) hlt]; exact hc i hi⟩⟩
/-- A row of the call's own as a slice of texts. -/
theorem Ts.ofOwn {w : World} {base : Nat} {e : TypeId} {v : Value} {n : Nat} {xs : List ByteArray} (h : w.ownsRow base e 1 v n (tv xs)) : ∃ a cap, v = .slice a n cap ∧ Ts w a n cap xs := by
  obtain ⟨hl, h⟩ := h
  rw [tv_length, Nat.mul_one] at hl
  rcases h with ⟨rfl, rfl⟩ | ⟨g, cap, cur, rfl, hb, hg, hn, hm, hs, ht⟩
  · exact ⟨none, 0, rfl, hl, by omega, Nat.zero_le _, fun _ => ⟨rfl, rfl⟩, fun h => absurd h (by omega)⟩
  · refine ⟨_, cap, rfl, hl, hn, hm, fun h => absurd h (by simp), fun h0 => ⟨g, 0, rfl, (Array.getElem?_eq_some_iff.1 hg).1, fun i hi => ?_⟩⟩
    have e1 : (cur.toList.take (n * 1))[i]? = some (.string (at_ xs i)) := by rw [ht]; exact tv_get xs i (by omega)
    rw [List.getElem?_take_of_lt (by omega)] at e1
    have e2 : cur[i]? = some (.string (at_ xs i)) := by simpa using e1
    simp [World.cell?, hg, e2]
theorem Ts.ofOwn' {w : World} {base : Nat} {e : TypeId} {a : Option Addr} {n cap : Nat} {xs : List ByteArray} (h : w.ownsRow base e 1 (.slice a n cap) n (tv xs)) : Ts w a n cap xs := by
  obtain ⟨a2, c2, e2, h2⟩ := Ts.ofOwn h
  cases e2
  exact h2
/-- A slice of texts as what is appended. -/
theorem Ts.src {w : World} {a : Option Addr} {n cap : Nat} {xs : List ByteArray} (h : Ts w a n cap xs) : Src w a n cap 1 (tv xs) :=
  ⟨by rw [tv_length, h.len, Nat.mul_one], tv_one xs, h.nil, fun ad ha j u hu => by
    have hj : j < n := by
      have := (List.getElem?_eq_some_iff.1 hu).1
      rwa [tv_length, h.len] at this
    rw [tv_get xs j (by rw [h.len]; exact hj)] at hu
    cases hu
    obtain ⟨b, off, hab, _, hc⟩ := h.at' (by omega)
    rw [ha] at hab
    cases hab
    rw [Addr.add_lit]
    exact hc j hj⟩
theorem at_ext {xs ys : List ByteArray} (hl : xs.length = ys.length) (h : ∀ i, i < xs.length → at_ xs i = at_ ys i) : xs = ys := by
  apply List.ext_getElem hl
  intro i h1 h2
  have := h i h1
  simpa [at_, h1, h2] using this

/-! ### Strings as lists of bytes -/
def mk (l : List UInt8) : ByteArray := ⟨l.toArray⟩
def by_ (s : ByteArray) : List UInt8 := s.data.toList
theorem mk_by (s : ByteArray) : mk (by_ s) = s := by simp [mk, by_]
theorem by_mk (l : List UInt8) : by_ (mk l) = l := by simp [mk, by_]
theorem mk_inj {a b : List UInt8} (h : mk a = mk b) : a = b := by rw [← by_mk a, ← by_mk b, h]
theorem by_inj {a b : ByteArray} (h : by_ a = by_ b) : a = b := by rw [← mk_by a, ← mk_by b, h]
theorem by_length (s : ByteArray) : (by_ s).length = s.size := Array.length_toList
theorem mk_size (l : List UInt8) : (mk l).size = l.length := List.size_toArray
theorem by_toList (s : ByteArray) : s.toList = by_ s := by rw [ByteArray.toList_eq]; rfl
theorem by_append (s t : ByteArray) : by_ (s ++ t) = by_ s ++ by_ t := by simp [by_]
theorem mk_append (a b : List UInt8) : mk a ++ mk b = mk (a ++ b) := by apply by_inj; rw [by_append, by_mk, by_mk, by_mk]
theorem mk_map_inj {a b : List (List UInt8)} (h : a.map mk = b.map mk) : a = b := by
  have := congrArg (List.map by_) h
  simpa [List.map_map, Function.comp_def, by_mk] using this
theorem by_extract (s : ByteArray) (i j : Nat) : by_ (s.extract i j) = ((by_ s).take j).drop i := by
  simp [by_, ByteArray.data_extract, List.drop_take]
theorem by_get {s : ByteArray} {i : Nat} (h : i < s.size) : ∃ x : UInt8, (by_ s).drop i = x :: (by_ s).drop (i + 1) ∧ (x.toNat : Int) = bytesF s i ∧ (by_ s)[i]? = some x := by
  have hl : i < (by_ s).length := by rw [by_length]; exact h
  refine ⟨(by_ s)[i], List.drop_eq_getElem_cons hl, ?_, List.getElem?_eq_getElem hl⟩
  have hg := (St.any s).get i h
  rw [← hg]
  rfl
end Go.Proofs.YtecbmonbeogdjaaDoor
