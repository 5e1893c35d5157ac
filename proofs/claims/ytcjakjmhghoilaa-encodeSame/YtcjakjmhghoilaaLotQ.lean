/-
  Several texts in one: Qu, QuW1, QuW2, QuW3, QuH1.
-/
import Derived.Test.YtcjakjmhghoilaaChecked
import Derived.Test.YtcjakjmhghoilaaLotM
import Derived.Test.YtcjakjmhghoilaaLotG
import Derived.Maps.OwnSet
import Derived.Maps.Views
import Derived.BigQuiet
import Derived.Deep.QuietTactic
import Derived.Deep.RegionHeld3
import Derived.BigRegion
import Derived.OwnWalk
import Derived.Deep.RegionLaw
import Derived.Deep.LoopGhost
/-
  Agendas in memory: a block of two cells (a row of entries, a map from places to where they stand), told by a function of the place in the row.
-/
namespace Go.Proofs.Ytcjakjmhghoilaa
open Go.RowKit Go.Maps Hp
set_option linter.unusedVariables false

/-- An entry as a value; the cells of n entries. -/
def va (e : Ent) : Value := .agg #[.int .i64 e.1, .int .i64 e.2.1, .int .i64 e.2.2]
def ev (f : Nat → Ent) (n : Nat) : List Value := fvals (fun i => (f i).1) (fun i => (f i).2.1) (fun i => (f i).2.2) n
theorem ev_length (f : Nat → Ent) (n : Nat) : (ev f n).length = n * 3 := fvals_length _ _ _ n
theorem ev_get (f : Nat → Ent) (n i : Nat) (h : i < n) : (ev f n)[i * 3]? = some (.int .i64 (f i).1) ∧ (ev f n)[i * 3 + 1]? = some (.int .i64 (f i).2.1) ∧ (ev f n)[i * 3 + 2]? = some (.int .i64 (f i).2.2) := fvals_get _ _ _ n i h
theorem ev_snoc (f : Nat → Ent) (n : Nat) : ev f n ++ [.int .i64 (f n).1, .int .i64 (f n).2.1, .int .i64 (f n).2.2] = ev f (n + 1) := fvals_snoc _ _ _ n
theorem ev_congr {f g : Nat → Ent} {n : Nat} (h : ∀ i, i < n → f i = g i) : ev f n = ev g n :=
  fvals_congr (fun i hi => by rw [h i hi]) (fun i hi => by rw [h i hi]) (fun i hi => by rw [h i hi])
theorem ev_one (f : Nat → Ent) (n : Nat) : ∀ u ∈ ev f n, u.oneCell' = true := fvals_one _ _ _ n
/-- One place turned. -/
def ch (f : Nat → Ent) (i : Nat) (e : Ent) : Nat → Ent := fun k => if k = i then e else f k
theorem ch_eq (f : Nat → Ent) (i : Nat) (e : Ent) : ch f i e i = e := by simp [ch]
theorem ch_ne {f : Nat → Ent} {i k : Nat} {e : Ent} (h : k ≠ i) : ch f i e k = f k := by simp [ch, h]
theorem ch_swp (f : Nat → Ent) (i j : Nat) : ch (ch f i (f j)) j (f i) = swp f i j := by
  funext k
  unfold ch swp
  by_cases h1 : k = j
  · by_cases h2 : k = i
    · subst h1; subst h2; simp
    · rw [if_pos h1, if_neg h2, if_pos h1]
  · rw [if_neg h1]
    by_cases h2 : k = i
    · rw [if_pos h2, if_pos h2]
    · rw [if_neg h2, if_neg h2, if_neg h1]
theorem ev_ch (f : Nat → Ent) {n i : Nat} (e : Ent) (hi : i < n) :
    (((ev f n).set (i * 3) (.int .i64 e.1)).set (i * 3 + 1) (.int .i64 e.2.1)).set (i * 3 + 2) (.int .i64 e.2.2) = ev (ch f i e) n := by
  apply List.ext_getElem?
  intro j
  have hl := ev_length f n
  by_cases hj : j < n * 3
  · obtain ⟨q, r, hr, rfl⟩ : ∃ q r, r < 3 ∧ j = q * 3 + r := ⟨j / 3, j % 3, by omega, by omega⟩
    have hq : q < n := by omega
    obtain ⟨a0, a1, a2⟩ := ev_get f n q hq
    obtain ⟨b0, b1, b2⟩ := ev_get (ch f i e) n q hq
    simp only [List.getElem?_set, List.length_set, hl]
    by_cases hqi : q = i
    · subst hqi
      rw [ch_eq] at b0 b1 b2
      obtain rfl | rfl | rfl : r = 0 ∨ r = 1 ∨ r = 2 := by omega
      · rw [if_neg (by omega), if_neg (by omega), if_pos (by omega), if_pos (by omega)]; exact b0.symm
      · rw [if_neg (by omega), if_pos rfl, if_pos (by omega)]; exact b1.symm
      · rw [if_pos rfl, if_pos (by omega)]; exact b2.symm
    · rw [ch_ne hqi] at b0 b1 b2
      rw [if_neg (by omega), if_neg (by omega), if_neg (by omega)]
      obtain rfl | rfl | rfl : r = 0 ∨ r = 1 ∨ r = 2 := by omega
      · exact a0.trans b0.symm
      · exact a1.trans b1.symm
      · exact a2.trans b2.symm
  · rw [List.getElem?_eq_none (by simp only [List.length_set, hl]; omega), List.getElem?_eq_none (by rw [ev_length]; omega)]
/-- Three stores into block B, as one step. -/
def set3 (w : World) (B i : Nat) (e : Ent) : World := ((w.setCell ⟨B, i, none⟩ (.int .i64 e.1)).setCell ⟨B, i + 1, none⟩ (.int .i64 e.2.1)).setCell ⟨B, i + 2, none⟩ (.int .i64 e.2.2)
theorem set3_mut (w : World) (B i : Nat) (e : Ent) {S : Nat → Prop} (hb : S B) : Mut S w (set3 w B i e) :=
  ((Mut.set w B i _ hb).trans (Mut.set _ B (i + 1) _ hb) (fun _ _ h => h)).trans (Mut.set _ B (i + 2) _ hb) (fun _ _ h => h)
theorem set3_own {w : World} {base : Nat} {ty : TypeId} {g n cap i : Nat} {f : Nat → Ent} (h : w.ownsRow base ty 3 (.slice (some ⟨g, 0, none⟩) n cap) n (ev f n)) (e : Ent) (hi : i < n) :
    (set3 w g (i * 3) e).ownsRow base ty 3 (.slice (some ⟨g, 0, none⟩) n cap) n (ev (ch f i e) n) := by
  have := (((h.stored (i * 3) (.int .i64 e.1)).1.stored (i * 3 + 1) (.int .i64 e.2.1)).1.stored (i * 3 + 2) (.int .i64 e.2.2)).1
  rwa [ev_ch f e hi] at this
theorem owns_mut {w w' : World} {base n size : Nat} {e : TypeId} {v : Value} {xs : List Value} {S : Nat → Prop} (h : w.ownsRow base e size v n xs) (hm : Mut S w w') (hS : ∀ k, v.ownBlock = some k → ¬ S k) : w'.ownsRow base e size v n xs := by
  refine ⟨h.1, ?_⟩
  rcases h.2 with hn | ⟨g, cap, cur, hv, hB, hg, rest⟩
  · exact .inl hn
  · refine .inr ⟨g, cap, cur, hv, hB, ?_, rest⟩
    rw [hm.block g (Array.getElem?_eq_some_iff.1 hg).1 (hS g (by rw [hv]; rfl))]
    exact hg
theorem map_mut {H : Type} {P : Program} {k : TypeId} {R : Value → Option (DataW H × List MemPlace)} {w w' : World} {b n : Nat} {D : DataW H} {S : Nat → Prop} (h : w.ownsMap P k R b n D) (hm : Mut S w w') (hS : ¬ S b) : w'.ownsMap P k R b n D := by
  have hlt := h.lt
  obtain ⟨es, clock, h1, r⟩ := h
  exact ⟨es, clock, (hm.block b hlt hS).trans h1, r⟩
theorem map_fit {H : Type} {P : Program} {k : TypeId} {R : Value → Option (DataW H × List MemPlace)} {w : World} {b n : Nat} {D : DataW H} (h : w.ownsMap P k R b n D) : w.ownsMap P k R b (Maps.size D) D := by
  obtain ⟨es, clock, h1, F, hs, rfl⟩ := h
  refine ⟨es, clock, h1, F, ?_, rfl⟩
  simp [Maps.size, length_sorted]
theorem turned_mut {w w' : World} {b : Nat} (h : w.mapTurned w' b) {S : Nat → Prop} (hb : S b) : Mut S w w' :=
  ⟨h.grown.os, h.grown.tape, h.grown.output, h.grown.size, fun k hk hn => h.grown.block k hk (fun e => hn (by cases e; exact hb))⟩

/-! ### which place stands where -/
def key (p : Int) : Lit := .int .i64 p
def PlD (f : Nat → Ent) (n : Nat) (D : DataW Unit) : Prop := ∀ p : Int, (key p).wf = true →
  (Maps.has D (key p) = true ↔ ∃ k, k < n ∧ (f k).1 = p) ∧ ∀ k, k < n → (f k).1 = p → ∀ z, D.atKey (key p) z = .lit (.int .i64 (k : Int))
theorem key_inj {p q : Int} (h : key p = key q) : p = q := by simpa [key] using h
theorem key_is {p : Int} (h : (key p).wf = true) : WideAt.IsKeyLit (key p) := by
  have h1 : keyOf Try.prog 3 (.int .i64 p) = some (key p) := keyOf_int_mk Try.underlying3 h
  exact (int_keyed Try.underlying3).key h1
def Wf (f : Nat → Ent) (n : Nat) : Prop := ∀ k, k < n → (key (f k).1).wf = true
theorem PlD.congr {f g : Nat → Ent} {n : Nat} {D : DataW Unit} (h : PlD f n D) (e : ∀ k, k < n → (f k).1 = (g k).1) : PlD g n D := fun p hp => by
  obtain ⟨h1, h2⟩ := h p hp
  refine ⟨h1.trans ⟨fun ⟨k, hk, hq⟩ => ⟨k, hk, by rw [← e k hk]; exact hq⟩, fun ⟨k, hk, hq⟩ => ⟨k, hk, by rw [e k hk]; exact hq⟩⟩, fun k hk hq => h2 k hk (by rw [e k hk]; exact hq)⟩
/-- Two entries exchanged. -/
theorem PlD.swap {f : Nat → Ent} {n i j : Nat} {D : DataW Unit} (hD : IsMap D) (h : PlD f n D) (hI : Inj (fun e : Ent => e.1) f n) (hW : Wf f n) (hi : i < n) (hj : j < n) :
    PlD (swp f i j) n ((D.put (key (swp f i j i).1) (.lit (.int .i64 (i : Int)))).put (key (swp f i j j).1) (.lit (.int .i64 (j : Int)))) := by
  rw [swp_l, swp_r]
  have k1 := key_is (hW j hj)
  have k2 := key_is (hW i hi)
  have hD1 : IsMap (D.put (key (f j).1) (.lit (.int .i64 (i : Int)))) := hD.put _ _
  have hI2 := swp_inj hi hj hI
  intro p hp
  obtain ⟨h1, h2⟩ := h p hp
  have cs : (∃ k, k < n ∧ (swp f i j k).1 = p) ↔ ∃ k, k < n ∧ (f k).1 = p := by
    constructor
    · rintro ⟨k, hk, rfl⟩
      obtain ⟨k', hk', e⟩ := (swp_cont (f := f) hi hj _).1 ⟨k, hk, rfl⟩
      exact ⟨k', hk', by rw [e]⟩
    · rintro ⟨k, hk, rfl⟩
      obtain ⟨k', hk', e⟩ := (swp_cont (f := f) hi hj _).2 ⟨k, hk, rfl⟩
      exact ⟨k', hk', by rw [e]⟩
  rw [cs]
  by_cases e2 : p = (f i).1
  · subst e2
    refine ⟨⟨fun _ => ⟨i, hi, rfl⟩, fun _ => has_put_same hD1 k2 _⟩, fun k hk hq z => ?_⟩
    rw [atKey_put_same hD1 k2]
    have : k = j := hI2 k j hk hj (by show (swp f i j k).1 = (swp f i j j).1; rw [hq, swp_r])
    rw [this]
  · have n2 : key p ≠ key (f i).1 := fun e => e2 (key_inj e)
    rw [has_put_other n2]
    by_cases e1 : p = (f j).1
    · subst e1
      refine ⟨⟨fun _ => ⟨j, hj, rfl⟩, fun _ => has_put_same hD k1 _⟩, fun k hk hq z => ?_⟩
      rw [atKey_put_other n2, atKey_put_same hD k1]
      have : k = i := hI2 k i hk hi (by show (swp f i j k).1 = (swp f i j i).1; rw [hq, swp_l])
      rw [this]
    · have n1 : key p ≠ key (f j).1 := fun e => e1 (key_inj e)
      rw [has_put_other n1]
      refine ⟨h1, fun k hk hq z => ?_⟩
      rw [atKey_put_other n2, atKey_put_other n1]
      have a1 : k ≠ i := fun e => e1 (by rw [← hq, e, swp_l])
      have a2 : k ≠ j := fun e => e2 (by rw [← hq, e, swp_r])
      rw [swp_o f a1 a2] at hq
      exact h2 k hk hq z
theorem PlD.put {f : Nat → Ent} {n : Nat} {D : DataW Unit} (hD : IsMap D) (h : PlD f n D) (e : Ent) (he : (key e.1).wf = true) (hn : ∀ k, k < n → (f k).1 ≠ e.1) :
    PlD (fun k => if k < n then f k else e) (n + 1) (D.put (key e.1) (.lit (.int .i64 (n : Int)))) := by
  intro p hp
  obtain ⟨h1, h2⟩ := h p hp
  by_cases hpe : p = e.1
  · subst hpe
    refine ⟨⟨fun _ => ⟨n, by omega, by simp⟩, fun _ => has_put_same hD (key_is he) _⟩, fun k hk hq z => ?_⟩
    rw [atKey_put_same hD (key_is he)]
    by_cases hkn : k < n
    · simp only [hkn, if_true] at hq
      exact absurd hq (hn k hkn)
    · have : k = n := by omega
      rw [this]
  · have ne : key p ≠ key e.1 := fun h => hpe (key_inj h)
    rw [has_put_other ne]
    refine ⟨h1.trans ⟨fun ⟨k, hk, hq⟩ => ⟨k, by omega, by simp only [hk, if_true]; exact hq⟩, fun ⟨k, hk, hq⟩ => ?_⟩, fun k hk hq z => ?_⟩
    · by_cases hkn : k < n
      · simp only [hkn, if_true] at hq
        exact ⟨k, hkn, hq⟩
      · simp only [hkn, if_false] at hq
        exact absurd hq.symm hpe
    · rw [atKey_put_other ne]
      by_cases hkn : k < n
      · simp only [hkn, if_true] at hq
        exact h2 k hkn hq z
      · simp only [hkn, if_false] at hq
        exact absurd hq.symm hpe
theorem PlD.del {f : Nat → Ent} {n : Nat} {D : DataW Unit} (h : PlD f (n + 1) D) (hI : Inj (fun e : Ent => e.1) f (n + 1)) : PlD f n (D.del (key (f n).1)) := by
  intro p hp
  obtain ⟨h1, h2⟩ := h p hp
  by_cases hpe : p = (f n).1
  · subst hpe
    have no : ∀ k, k < n → (f k).1 ≠ (f n).1 := fun k hk hq => by
      have := hI k n (by omega) (by omega) hq
      omega
    refine ⟨⟨fun h => ?_, fun ⟨k, hk, hq⟩ => absurd hq (no k hk)⟩, fun k hk hq => absurd hq (no k hk)⟩
    rw [has_del_same] at h
    cases h
  · have ne : key p ≠ key (f n).1 := fun h => hpe (key_inj h)
    rw [has_del_other ne]
    refine ⟨h1.trans ⟨fun ⟨k, hk, hq⟩ => ⟨k, ?_, hq⟩, fun ⟨k, hk, hq⟩ => ⟨k, by omega, hq⟩⟩, fun k hk hq z => ?_⟩
    · by_cases hkn : k = n
      · rw [hkn] at hq; exact absurd hq.symm hpe
      · omega
    · rw [atKey_del_other ne]
      exact h2 k (by omega) hq z

/-! ### an agenda -/
structure Ag (w : World) (O : Nat) (v : Value) (M n : Nat) (f : Nat → Ent) : Prop where
  blk : w.heap[O]? = some (.cells #[v, .map (some M)] 102 (0, 0))
  row : w.ownsRow 0 63 3 v n (ev f n)
  map : ∃ D, w.ownsMap Try.prog 3 (plainElem Try.prog 3) M n D ∧ Maps.size D = n ∧ PlD f n D
  inj : Inj (fun e : Ent => e.1) f n
  wf : Wf f n
/-- Its blocks. -/
def own (O M : Nat) (v : Value) : Nat → Prop := fun k => k = O ∨ k = M ∨ v.ownBlock = some k
section
variable {w : World} {O M n : Nat} {v : Value} {f : Nat → Ent}
theorem Ag.c0 (h : Ag w O v M n f) : w.cell? ⟨O, 0, none⟩ = some v := by simp [World.cell?, h.blk]
theorem Ag.c1 (h : Ag w O v M n f) : w.cell? ⟨O, 1, none⟩ = some (.map (some M)) := by simp [World.cell?, h.blk]
theorem Ag.fz (h : Ag w O v M n f) (j : Nat) : w.frozen? ⟨O, j, none⟩ = false := by simp [World.frozen?, h.blk]
theorem Ag.ltO (h : Ag w O v M n f) : O < w.heap.size := (Array.getElem?_eq_some_iff.1 h.blk).1
theorem Ag.ltM (h : Ag w O v M n f) : M < w.heap.size := by obtain ⟨D, h1, _⟩ := h.map; exact h1.lt
theorem Ag.lt (h : Ag w O v M n f) {k : Nat} (hk : own O M v k) : k < w.heap.size := by
  rcases hk with rfl | rfl | hk
  · exact h.ltO
  · exact h.ltM
  · exact (h.row.lt k hk).2
theorem Ag.neOM (h : Ag w O v M n f) : O ≠ M := fun e => by
  obtain ⟨D, ⟨es, clock, h1, _⟩, _⟩ := h.map
  rw [← e, h.blk] at h1
  cases h1
theorem Ag.neg (h : Ag w O v M n f) {g : Nat} (hg : v.ownBlock = some g) : g ≠ O ∧ g ≠ M := by
  rcases h.row.2 with ⟨rfl, _⟩ | ⟨g', cap, cur, rfl, _, hb, _⟩
  · cases hg
  · obtain rfl : g' = g := by simpa [Value.ownBlock] using hg
    refine ⟨fun e => ?_, fun e => ?_⟩
    · rw [e, h.blk] at hb
      simp only [Option.some.injEq, Obj.cells.injEq] at hb
      exact absurd hb.2.1 (by decide)
    · obtain ⟨D, ⟨es, clock, h1, _⟩, _⟩ := h.map
      rw [e, h1] at hb
      cases hb
theorem Ag.pos (h : Ag w O v M n f) (hn : 0 < n) : ∃ g cap, v = .slice (some ⟨g, 0, none⟩) n cap ∧ n ≤ cap ∧ cap ≤ maxLen := by
  rcases h.row.2 with ⟨_, h0⟩ | ⟨g, cap, cur, rfl, _, _, h1, h2, _⟩
  · omega
  · exact ⟨g, cap, rfl, h1, h2⟩
theorem Ag.sl (h : Ag w O v M n f) : ∃ a cap, v = .slice a n cap := by
  rcases h.row.2 with ⟨rfl, rfl⟩ | ⟨g, cap, cur, rfl, _, _, h1, h2, _⟩
  · exact ⟨none, 0, rfl⟩
  · exact ⟨_, cap, rfl⟩
theorem Ag.at' {g cap : Nat} (h : Ag w O (.slice (some ⟨g, 0, none⟩) n cap) M n f) {i : Nat} (hi : i < n) :
    w.cell? ⟨g, i * 3, none⟩ = some (.int .i64 (f i).1) ∧ w.cell? ⟨g, i * 3 + 1, none⟩ = some (.int .i64 (f i).2.1) ∧ w.cell? ⟨g, i * 3 + 2, none⟩ = some (.int .i64 (f i).2.2) := by
  obtain ⟨a0, a1, a2⟩ := ev_get f n i hi
  exact ⟨(h.row.cellAt _ (by omega)).trans a0, (h.row.cellAt _ (by omega)).trans a1, (h.row.cellAt _ (by omega)).trans a2⟩
theorem Ag.kept (h : Ag w O v M n f) {S : Nat → Prop} {w' : World} (hm : Mut S w w') (hS : ∀ k, own O M v k → ¬ S k) : Ag w' O v M n f :=
  ⟨by rw [hm.block O h.ltO (hS O (.inl rfl))]; exact h.blk, owns_mut h.row hm (fun k hk => hS k (.inr (.inr hk))), by
    obtain ⟨D, h1, h2⟩ := h.map
    exact ⟨D, map_mut h1 hm (hS M (.inr (.inl rfl))), h2⟩, h.inj, h.wf⟩
theorem Ag.below (h : Ag w O v M n f) {w' : World} (hb : Below w.heap.size w w') : Ag w' O v M n f := h.kept (Mut.ofBelow hb fun _ => False) fun _ _ e => e
theorem Ag.drew (h : Ag w O v M n f) : Ag w.drew O v M n f := h.below (Below.refl _ _).drew
theorem Ag.congr (h : Ag w O v M n f) {g : Nat → Ent} (e : ∀ k, k < n → f k = g k) : Ag w O v M n g :=
  ⟨h.blk, by rw [← ev_congr e]; exact h.row, by
    obtain ⟨D, h1, h2, h3⟩ := h.map
    exact ⟨D, h1, h2, h3.congr (fun k hk => by rw [e k hk])⟩, fun i j hi hj hq => h.inj i j hi hj (by show (f i).1 = (f j).1; rw [e i hi, e j hj]; exact hq), fun k hk => by have := h.wf k hk; rwa [e k hk] at this⟩
end
theorem Mut.mono {S S' : Nat → Prop} {w w' : World} (h : Mut S w w') (hS : ∀ k, S k → S' k) : Mut S' w w' := ⟨h.os, h.tape, h.output, h.size, fun k hk hn => h.block k hk (fun e => hn (hS k e))⟩
end Go.Proofs.Ytcjakjmhghoilaa

/-
  Walks of an agenda's row: Len, Less, Swap.
-/
namespace Go.Proofs.Ytcjakjmhghoilaa
open Go.RowKit Go.Maps Hp
set_option linter.unusedVariables false
abbrev pt (O : Nat) : Value := .pointer (some ⟨O, 0, none⟩)
/-- Two blocks of three numbers, just laid. -/
theorem two_new (w : World) (t : TypeId) (x0 x1 x2 y0 y1 y2 : Int) : ∃ W : World, ((w.alloc (.cells #[.int .i64 x0, .int .i64 x1, .int .i64 x2] t)).alloc (.cells #[.int .i64 y0, .int .i64 y1, .int .i64 y2] t)).drew = W ∧ Below w.heap.size w W ∧
    W.cell? ⟨w.heap.size, 0, none⟩ = some (.int .i64 x0) ∧ W.cell? ⟨w.heap.size, 1, none⟩ = some (.int .i64 x1) ∧ W.cell? ⟨w.heap.size + 1, 0, none⟩ = some (.int .i64 y0) ∧ W.cell? ⟨w.heap.size + 1, 1, none⟩ = some (.int .i64 y1) :=
  ⟨_, rfl, (((Below.refl _ _).alloc (Nat.le_refl _) _).alloc (by simp) _).drew, by simp, by simp, by simp, by simp⟩
section
variable {w : World} {O M n : Nat} {v : Value} {f : Nat → Ent}
theorem wlen_calls (h : Ag w O v M n f) : Calls Try.prog 58 #[pt O] w fun e w' => e = .returned (.int .i64 (n : Int)) ∧ w' = w := by
  have c0 := h.c0
  obtain ⟨a, cap, rfl⟩ := h.sl
  clear h
  go_enter Try.func58, Try.ntmps58
  go_wp2_with fail
  go_ret
  exact ⟨rfl, rfl⟩
set_option maxRecDepth 100000 in
set_option maxHeartbeats 3200000 in
theorem less_calls (h : Ag w O v M n f) {i j : Nat} (hi : i < n) (hj : j < n) (hn : n ≤ 1000000) :
    Calls Try.prog 100 #[pt O, .int .i64 (i : Int), .int .i64 (j : Int)] w fun e w' => (∃ t, e = .returned (.bool t) ∧ (t = true ↔ lt (f i) (f j))) ∧ Below w.heap.size w w' := by
  have c0 := h.c0
  obtain ⟨g, cap, rfl, h1, h2⟩ := h.pos (by omega)
  obtain ⟨p0, p1, p2⟩ := h.at' hi
  obtain ⟨q0, q1, q2⟩ := h.at' hj
  obtain ⟨⟨x0, x1, x2⟩, hx⟩ : ∃ x, f i = x := ⟨_, rfl⟩
  obtain ⟨⟨y0, y1, y2⟩, hy⟩ : ∃ x, f j = x := ⟨_, rfl⟩
  rw [hx] at p0 p1 p2
  rw [hy] at q0 q1 q2
  rw [hx, hy]
  simp only at p0 p1 p2 q0 q1 q2
  have k0 : (0 : Int) ≤ i := by omega
  have k1 : (i : Int) < n := by omega
  have k2 : (0 : Int) ≤ j := by omega
  have k3 : (j : Int) < n := by omega
  have key : (x1 = y1 ∧ (lt (x0, x1, x2) (y0, y1, y2) ↔ x0 < y0)) ∨ (x1 ≠ y1 ∧ (lt (x0, x1, x2) (y0, y1, y2) ↔ x1 < y1)) := by
    unfold lt
    by_cases he : x1 = y1
    · exact .inl ⟨he, by simp only; omega⟩
    · exact .inr ⟨he, by simp only; omega⟩
  have KEY := hid key
  clear h hx hy key
  go_enter Try.func100, Try.ntmps100
  go_wp2_with fail
  go_region_held3 (fun w' => w'.cell? ⟨O, 0, none⟩ = some (.slice (some ⟨g, 0, none⟩) n cap) ∧ w'.cell? ⟨g, i * 3, none⟩ = some (.int .i64 x0) ∧ w'.cell? ⟨g, i * 3 + 1, none⟩ = some (.int .i64 x1) ∧ w'.cell? ⟨g, i * 3 + 2, none⟩ = some (.int .i64 x2) ∧ w'.cell? ⟨g, j * 3, none⟩ = some (.int .i64 y0) ∧ w'.cell? ⟨g, j * 3 + 1, none⟩ = some (.int .i64 y1) ∧ w'.cell? ⟨g, j * 3 + 2, none⟩ = some (.int .i64 y2)) (first | exact ⟨c0, p0, p1, p2, q0, q1, q2⟩ | go_keep) (fail)
  · obtain ⟨W, hW, B, d0, d1, d2, d3⟩ := two_new w 63 x0 x1 x2 y0 y1 y2
    rw [hW]
    have B1 := hid B
    clear hW B c0 p0 p1 p2 q0 q1 q2
    rcases KEY.out with ⟨he, hl⟩ | ⟨he, hl⟩
    · subst he
      have HL := hid hl
      clear hl KEY
      go_wp2_with fail
      go_ret
      exact ⟨⟨_, rfl, by simpa using HL.out.symm⟩, B1.out⟩
    · have HL := hid hl
      have hne : (x1 == y1) = false := by simpa using he
      clear hl KEY
      go_wp2_with fail
      go_ret
      exact ⟨⟨_, rfl, by simpa using HL.out.symm⟩, B1.out⟩
  · obtain ⟨W, hW, B, d0, d1, d2, d3⟩ := two_new w 63 y0 y1 y2 x0 x1 x2
    rw [hW]
    have B1 := hid B
    clear hW B c0 p0 p1 p2 q0 q1 q2
    rcases KEY.out with ⟨he, hl⟩ | ⟨he, hl⟩
    · subst he
      have HL := hid hl
      clear hl KEY
      go_wp2_with fail
      go_ret
      exact ⟨⟨_, rfl, by simpa using HL.out.symm⟩, B1.out⟩
    · have HL := hid hl
      have hne : (x1 == y1) = false := by simpa using he
      clear hl KEY
      go_wp2_with fail
      go_ret
      exact ⟨⟨_, rfl, by simpa using HL.out.symm⟩, B1.out⟩
end
end Go.Proofs.Ytcjakjmhghoilaa

/-
  Walk of an agenda's row: Swap.
-/
namespace Go.Proofs.Ytcjakjmhghoilaa
open Go.RowKit Go.Maps Hp
set_option linter.unusedVariables false
/-- What the three stores of an entry want. -/
theorem st3 {w : World} {base : Nat} {ty : TypeId} {g n cap i : Nat} {f : Nat → Ent} (h : w.ownsRow base ty 3 (.slice (some ⟨g, 0, none⟩) n cap) n (ev f n)) (x0 x1 x2 : Int) (hi : i < n) :
    w.frozen? ⟨g, i * 3, none⟩ = false ∧ (∃ u, w.cell? ⟨g, i * 3, none⟩ = some u) ∧
    (w.setCell ⟨g, i * 3, none⟩ (.int .i64 x0)).frozen? ⟨g, i * 3 + 1, none⟩ = false ∧ (∃ u, (w.setCell ⟨g, i * 3, none⟩ (.int .i64 x0)).cell? ⟨g, i * 3 + 1, none⟩ = some u) ∧
    ((w.setCell ⟨g, i * 3, none⟩ (.int .i64 x0)).setCell ⟨g, i * 3 + 1, none⟩ (.int .i64 x1)).frozen? ⟨g, i * 3 + 2, none⟩ = false ∧ (∃ u, ((w.setCell ⟨g, i * 3, none⟩ (.int .i64 x0)).setCell ⟨g, i * 3 + 1, none⟩ (.int .i64 x1)).cell? ⟨g, i * 3 + 2, none⟩ = some u) ∧
    (set3 w g (i * 3) (x0, x1, x2)).ownsRow base ty 3 (.slice (some ⟨g, 0, none⟩) n cap) n (ev (ch f i (x0, x1, x2)) n) := by
  have hl := ev_length f n
  have h1 := (h.stored (i * 3) (.int .i64 x0)).1
  have h2 := (h1.stored (i * 3 + 1) (.int .i64 x1)).1
  have get : ∀ {xs : List Value} {W : World}, W.ownsRow base ty 3 (.slice (some ⟨g, 0, none⟩) n cap) n xs → ∀ j, j < n * 3 → ∃ u, W.cell? ⟨g, j, none⟩ = some u := fun {xs W} hh j hj => by
    rw [hh.cellAt j hj]
    have := hh.1
    exact ⟨_, List.getElem?_eq_getElem (by omega)⟩
  exact ⟨h.frozenAt _, get h _ (by omega), h1.frozenAt _, get h1 _ (by omega), h2.frozenAt _, get h2 _ (by omega), set3_own h (x0, x1, x2) hi⟩
/-- A store into the map, as an equation. -/
theorem put_run {w : World} {M m : Nat} {D : DataW Unit} (h : w.ownsMap Try.prog 3 (plainElem Try.prog 3) M m D) (hm : m ≤ 1000000) (p c : Int) (hp : (key p).wf = true) (hc : (key c).wf = true) :
    ∃ w', (Instr.mapUpdate 98 (.map (some M)) (.int .i64 p) (.int .i64 c)).run Try.prog w = .ok () w' ∧ w'.ownsMap Try.prog 3 (plainElem Try.prog 3) M (Maps.size (D.put (key p) (.lit (.int .i64 c)))) (D.put (key p) (.lit (.int .i64 c))) ∧ w.mapTurned w' M := by
  obtain ⟨w', h1, h2, h3⟩ := h.store (int_keyed Try.underlying3) Try.underlying98 (by unfold maxLen; omega) (keyOf_int_mk Try.underlying3 hp) (plainElem_int Try.underlying3 hc)
  exact ⟨w', h1, map_fit h2, h3⟩
theorem wf_nat {k : Nat} (h : k ≤ 1000000) : (key (k : Int)).wf = true := by
  show (Lit.int .i64 (k : Int)).wf = true
  exact WalkArith.wf_i64 (by omega)
section
variable {w : World} {O M n : Nat} {v : Value} {f : Nat → Ent}
set_option maxRecDepth 100000 in
set_option maxHeartbeats 3200000 in
theorem swap_calls (h : Ag w O v M n f) {i j : Nat} (hi : i < n) (hj : j < n) (hn : n ≤ 1000000) :
    Calls Try.prog 103 #[pt O, .int .i64 (i : Int), .int .i64 (j : Int)] w fun e w' => e = .returned (.tuple #[]) ∧ Ag w' O v M n (swp f i j) ∧ Mut (own O M v) w w' := by
  obtain ⟨g, cap, rfl, h1, h2⟩ := h.pos (by omega)
  have c0 := h.c0
  have c1 := h.c1
  obtain ⟨hgO, hgM⟩ := h.neg (g := g) rfl
  have hOM := h.neOM
  obtain ⟨p0, p1, p2⟩ := h.at' hi
  obtain ⟨q0, q1, q2⟩ := h.at' hj
  obtain ⟨D, hD, hs, hP⟩ := h.map
  have wi := h.wf i hi
  have wj := h.wf j hj
  have hPs := hP.swap hD.isMap h.inj h.wf hi hj
  have hC := swp_cont (f := f) hi hj
  have HW := hid (show Inj (fun e : Ent => e.1) (swp f i j) n ∧ Wf (swp f i j) n from ⟨swp_inj hi hj h.inj, fun k hk => by
    obtain ⟨k', hk', e⟩ := (hC _).1 ⟨k, hk, rfl⟩
    have := h.wf k' hk'
    rwa [e] at this⟩)
  have tD := hD.tidy (int_keyed Try.underlying3)
  rw [swp_l, swp_r] at hPs
  have hasi : Maps.has D (key (f i).1) = true := (hP _ wi).1.2 ⟨i, hi, rfl⟩
  have hasj : Maps.has D (key (f j).1) = true := (hP _ wj).1.2 ⟨j, hj, rfl⟩
  obtain ⟨⟨x0, x1, x2⟩, hx⟩ : ∃ x, f i = x := ⟨_, rfl⟩
  obtain ⟨⟨y0, y1, y2⟩, hy⟩ : ∃ x, f j = x := ⟨_, rfl⟩
  have hsi : (swp f i j i).1 = y0 := by rw [swp_l, hy]
  have hsj : (swp f i j j).1 = x0 := by rw [swp_r, hx]
  -- the row
  obtain ⟨a0, ⟨u0, b0⟩, a1, ⟨u1, b1⟩, a2, ⟨u2, b2⟩, ro1⟩ := st3 h.row y0 y1 y2 hi
  obtain ⟨a3, ⟨u3, b3⟩, a4, ⟨u4, b4⟩, a5, ⟨u5, b5⟩, ro2⟩ := st3 ro1 x0 x1 x2 hj
  have m1 := (set3_mut w g (i * 3) (y0, y1, y2) (S := fun k => k = g) rfl).trans (set3_mut _ g (j * 3) (x0, x1, x2) (S := fun k => k = g) rfl) (fun _ _ e => e)
  have e0 : ch (ch f i (y0, y1, y2)) j (x0, x1, x2) = swp f i j := by rw [← hx, ← hy]; exact ch_swp f i j
  rw [e0] at ro2
  have blk := h.blk
  rw [hx] at p0 p1 p2 wi hasi hPs
  rw [hy] at q0 q1 q2 wj hasj hPs
  have k0 : (0 : Int) ≤ i := by omega
  have k1 : (i : Int) < n := by omega
  have k2 : (0 : Int) ≤ j := by omega
  have k3 : (j : Int) < n := by omega
  simp only at p0 p1 p2 q0 q1 q2 wi wj hasi hasj hPs
  -- the world behind the stores, and what is read of it
  obtain ⟨W1, hW1⟩ : ∃ W, (set3 (set3 w g (i * 3) (y0, y1, y2)) g (j * 3) (x0, x1, x2)).drew = W := ⟨_, rfl⟩
  have ro2 := ro2.drew
  have m1 := m1.drew
  rw [hW1] at ro2 m1
  have blk1 : W1.heap[O]? = some (.cells #[.slice (some ⟨g, 0, none⟩) n cap, .map (some M)] 102 (0, 0)) := (m1.block O h.ltO (fun e => hgO e.symm)).trans blk
  have D1 := map_mut hD m1 (fun e => hgM e.symm)
  have ci1 : W1.cell? ⟨g, i * 3, none⟩ = some (.int .i64 y0) := by rw [ro2.cellAt _ (by omega), (ev_get _ _ i hi).1, hsi]
  obtain ⟨W2, r2, o2, t2⟩ := put_run D1.drew (by omega) y0 i wj (wf_nat (by omega))
  have s2 : Maps.size (D.put (key y0) (.lit (.int .i64 (i : Int)))) = n := by rw [size_put tD, if_pos hasj, hs]
  have m2 : Mut (fun k => k = M) W1 W2 := (Mut.refl _ W1).drew.trans (turned_mut t2 (S := fun k => k = M) rfl) (fun _ _ e => e)
  have blk2 := (m2.block O (Nat.lt_of_lt_of_le h.ltO m1.size) hOM).trans blk1
  have ro3 := owns_mut ro2 m2 (fun k e => by cases e; exact hgM)
  have cj2 : W2.cell? ⟨g, j * 3, none⟩ = some (.int .i64 x0) := by rw [ro3.cellAt _ (by omega), (ev_get _ _ j hj).1, hsj]
  have ci2 : W2.cell? ⟨g, i * 3, none⟩ = some (.int .i64 y0) := by rw [ro3.cellAt _ (by omega), (ev_get _ _ i hi).1, hsi]
  obtain ⟨W3, r3, o3, t3⟩ := put_run o2.drew (by omega) x0 j wi (wf_nat (by omega))
  have has2 : Maps.has (D.put (key y0) (.lit (.int .i64 (i : Int)))) (key x0) = true := by
    by_cases e : x0 = y0
    · rw [e]; exact has_put_same hD.isMap (key_is wj) _
    · rw [has_put_other (fun h => e (key_inj h))]; exact hasi
  have s3 : Maps.size ((D.put (key y0) (.lit (.int .i64 (i : Int)))).put (key x0) (.lit (.int .i64 (j : Int)))) = n := by rw [size_put (tD.put (key_is wj) _), if_pos has2, s2]
  have m3 : Mut (fun k => k = M) W2 W3 := (Mut.refl _ W2).drew.trans (turned_mut t3 (S := fun k => k = M) rfl) (fun _ _ e => e)
  have blk3 := (m3.block O (Nat.lt_of_lt_of_le h.ltO (Nat.le_trans m1.size m2.size)) hOM).trans blk2
  have ro4 := owns_mut ro3 m3 (fun k e => by cases e; exact hgM)
  have cj3 : W3.cell? ⟨g, j * 3, none⟩ = some (.int .i64 x0) := by rw [ro4.cellAt _ (by omega), (ev_get _ _ j hj).1, hsj]
  rw [s3] at o3
  have FIN := hid (show Ag W3 O (.slice (some ⟨g, 0, none⟩) n cap) M n (swp f i j) ∧ Mut (own O M (.slice (some ⟨g, 0, none⟩) n cap)) w W3 from
    ⟨⟨blk3, ro4, ⟨_, o3, s3, hPs⟩, HW.out.1, HW.out.2⟩, (m1.mono (S' := own O M (.slice (some ⟨g, 0, none⟩) n cap)) (fun k e => .inr (.inr (by rw [e]; rfl)))).trans ((m2.trans m3 (fun _ _ e => e)).mono (S' := own O M (.slice (some ⟨g, 0, none⟩) n cap)) (fun k e => .inr (.inl e))) (fun _ _ e => e)⟩)
  have K1 := hid (show W1.cell? ⟨O, 0, none⟩ = some (.slice (some ⟨g, 0, none⟩) n cap) ∧ W1.cell? ⟨O, 1, none⟩ = some (.map (some M)) ∧ W1.cell? ⟨g, i * 3, none⟩ = some (.int .i64 y0) from ⟨by simp [World.cell?, blk1], by simp [World.cell?, blk1], ci1⟩)
  have K2 := hid (show W2.cell? ⟨O, 0, none⟩ = some (.slice (some ⟨g, 0, none⟩) n cap) ∧ W2.cell? ⟨O, 1, none⟩ = some (.map (some M)) ∧ W2.cell? ⟨g, i * 3, none⟩ = some (.int .i64 y0) from ⟨by simp [World.cell?, blk2], by simp [World.cell?, blk2], ci2⟩)
  have K2' := hid (show W2.cell? ⟨O, 0, none⟩ = some (.slice (some ⟨g, 0, none⟩) n cap) ∧ W2.cell? ⟨O, 1, none⟩ = some (.map (some M)) ∧ W2.cell? ⟨g, j * 3, none⟩ = some (.int .i64 x0) from ⟨K2.out.1, K2.out.2.1, cj2⟩)
  have K3 := hid (show W3.cell? ⟨O, 0, none⟩ = some (.slice (some ⟨g, 0, none⟩) n cap) ∧ W3.cell? ⟨O, 1, none⟩ = some (.map (some M)) ∧ W3.cell? ⟨g, j * 3, none⟩ = some (.int .i64 x0) from ⟨by simp [World.cell?, blk3], by simp [World.cell?, blk3], cj3⟩)
  have R2 := hid r2
  have R3 := hid r3
  unfold set3 at a3 a4 a5 b3 b4 b5
  clear h hD hs hP hPs HW tD hasi hasj ro1 ro2 ro3 ro4 m1 m2 m3 blk blk1 blk2 blk3 D1 ci1 ci2 cj2 cj3 o2 o3 s2 s3 t2 t3 has2 r2 r3 e0 hx hy hsi hsj hC wi wj
  go_enter Try.func103, Try.ntmps103
  go_wp2_with fail
  go_region
  show Exit.then _ _ Exit.normal _ (set3 (set3 w g (i * 3) (y0, y1, y2)) g (j * 3) (x0, x1, x2)).drew
  rw [hW1]
  clear hW1 a0 a1 a2 a3 a4 a5 b0 b1 b2 b3 b4 b5 p0 p1 p2 q0 q1 q2 c0 c1
  have r2 := R2.out
  obtain ⟨d0, d1, d2⟩ := K1.out
  go_wp2_with fail
  go_region
  clear d0 d1 d2 r2 K1
  have r3 := R3.out
  obtain ⟨d0, d1, d2⟩ := K2'.out
  go_wp2_with fail
  go_region
  go_wp2_with fail
  go_end0
  exact ⟨rfl, FIN.out⟩
end
end Go.Proofs.Ytcjakjmhghoilaa

/-
  Walks of an agenda's row: Push, Pop.
-/
namespace Go.Proofs.Ytcjakjmhghoilaa
open Go.RowKit Go.Maps Hp
set_option linter.unusedVariables false
theorem Try.infoE : (Try.prog.info? 63).map (fun i => (i.zero, i.size, i.bytes)) = some (some (.agg #[.int .i64 0, .int .i64 0, .int .i64 0]), 3, 24) := by kernel_rfl
/-- An entry of one row behind another. -/
theorem ev_add (f : Nat → Ent) (n : Nat) (x : Ent) : ev f n ++ [.int .i64 x.1, .int .i64 x.2.1, .int .i64 x.2.2] = ev (fun k => if k < n then f k else x) (n + 1) := by
  rw [← ev_snoc (fun k => if k < n then f k else x)]
  congr 1
  · exact ev_congr (fun i hi => by simp [hi])
  · simp
theorem del_run {w : World} {M m : Nat} {D : DataW Unit} (h : w.ownsMap Try.prog 3 (plainElem Try.prog 3) M m D) (p : Int) (hp : (key p).wf = true) (ty : TypeId) :
    ∃ w', (Builtin.delete_ #[98, 3] ty #[.map (some M), .int .i64 p]).run Try.prog w = .ok (.tuple #[]) w' ∧ w'.ownsMap Try.prog 3 (plainElem Try.prog 3) M (Maps.size (D.del (key p))) (D.del (key p)) ∧ w.mapTurned w' M := by
  obtain ⟨w', h1, h2, h3⟩ := h.drop (int_keyed Try.underlying3) Try.underlying98 (keyOf_int_mk Try.underlying3 hp) ty
  exact ⟨w', h1, map_fit h2, h3⟩
theorem ta_e (x0 x1 x2 : Int) (w : World) : (Instr.typeAssert (.iface 63 (.agg #[.int .i64 x0, .int .i64 x1, .int .i64 x2])) 20 63 false).run Try.prog w = .ok (.agg #[.int .i64 x0, .int .i64 x1, .int .i64 x2]) w := by kernel_rfl
theorem blk_grown {W w5 : World} {O : Nat} {o x : Obj} {r : Option Nat} (h : W.heap[O]? = some x) (hg : ((W.alloc o).drew).grownBy w5 r) (hne : some O ≠ r) : w5.heap[O]? = some x := by
  have hlt := (Array.getElem?_eq_some_iff.1 h).1
  have h1 : (W.alloc o).drew.heap[O]? = some x := (Below.heap_alloc _ _ _ hlt).trans h
  exact (hg.block O (Array.getElem?_eq_some_iff.1 h1).1 hne).trans h1
theorem cell_al {W : World} {p : Addr} {v : Value} (h : W.cell? p = some v) (o : Obj) : (W.alloc o).cell? p = some v :=
  (World.cell?_of_block (Below.heap_alloc _ _ _ (World.block_lt_of_cell? _ _ h))).trans h
theorem own_sl {w : World} {base n : Nat} {e : TypeId} {v : Value} {xs : List Value} (h : w.ownsRow base e 3 v n xs) : ∃ a cap, v = .slice a n cap := by
  rcases h.2 with ⟨rfl, rfl⟩ | ⟨g, cap, cur, rfl, _⟩
  · exact ⟨none, 0, rfl⟩
  · exact ⟨_, cap, rfl⟩
theorem own_cut {w : World} {g n cap : Nat} {e : TypeId} {f : Nat → Ent} (h : w.ownsRow 0 e 3 (.slice (some ⟨g, 0, none⟩) (n + 1) cap) (n + 1) (ev f (n + 1))) : w.ownsRow 0 e 3 (.slice (some ⟨g, 0, none⟩) n cap) n (ev f n) := by
  refine ⟨ev_length f n, ?_⟩
  rcases h.2 with ⟨hv, _⟩ | ⟨g', cap', cur, hv, hb, hg, h1, h2, h3, h4⟩
  · cases hv
  · simp only [Value.slice.injEq, Option.some.injEq, Addr.mk.injEq, and_true, true_and] at hv
    obtain ⟨rfl, rfl⟩ := hv
    refine .inr ⟨g, cap, cur, rfl, hb, hg, by omega, h2, h3, ?_⟩
    have e1 : (cur.toList.take ((n + 1) * 3)).take (n * 3) = cur.toList.take (n * 3) := by rw [List.take_take]; congr 1; omega
    rw [← e1, h4, ← ev_snoc, List.take_left' (ev_length f n)]
/-- The blocks of the row of a call's own: as they were, or new. -/
def Same (w : World) (v v' : Value) : Prop := ∀ k, v'.ownBlock = some k → v.ownBlock = some k ∨ w.heap.size ≤ k
theorem grown_mut {W W' : World} {r : Option Nat} (h : W.grownBy W' r) {S : Nat → Prop} (hS : ∀ k, r = some k → S k) : Mut S W W' :=
  ⟨h.os, h.tape, h.output, h.size, fun k hk hn => h.block k hk (fun e => hn (hS k e.symm))⟩
theorem push_fin {w W0 W1 w5 : World} {O M n cap q5 : Nat} {a a5 : Option Addr} {f : Nat → Ent} {x : Ent} {D : DataW Unit} {o : Obj}
    (L0 : ∀ k, own O M (.slice a n cap) k → k < w.heap.size) (B0 : Below w.heap.size w W0) (MM : Mut (fun k => k = M) W0 W1)
    (OM : W1.ownsMap Try.prog 3 (plainElem Try.prog 3) M (n + 1) D) (s1 : Maps.size D = n + 1) (HP : PlD (fun k => if k < n then f k else x) (n + 1) D)
    (HI : Inj (fun e : Ent => e.1) (fun k => if k < n then f k else x) (n + 1) ∧ Wf (fun k => if k < n then f k else x) (n + 1)) (hgO : ∀ g, (Value.slice a n cap).ownBlock = some g → g ≠ O ∧ g ≠ M) (hOM : O ≠ M)
    (ho5 : w5.ownsRow 0 63 3 (.slice a5 (n + 1) q5) (n + 1) (ev f n ++ [.int .i64 x.1, .int .i64 x.2.1, .int .i64 x.2.2])) (hg5 : ((W1.alloc o).drew).grownBy w5 (Value.slice a n cap).ownBlock)
    (hob5 : (Value.slice a5 (n + 1) q5).ownBlock = (Value.slice a n cap).ownBlock ∨ (Value.slice a5 (n + 1) q5).ownBlock = some ((W1.alloc o).drew).heap.size)
    (BO : w5.heap[O]? = some (.cells #[.slice a n cap, .map (some M)] 102 (0, 0))) :
    ∃ v', Ag (w5.setCell ⟨O, 0, none⟩ (.slice a5 (n + 1) q5)) O v' M (n + 1) (fun k => if k < n then f k else x) ∧ Same w (.slice a n cap) v' ∧ Mut (own O M (.slice a n cap)) w (w5.setCell ⟨O, 0, none⟩ (.slice a5 (n + 1) q5)) := by
  have hs1 : w.heap.size ≤ ((W1.alloc o).drew).heap.size := Nat.le_trans (Nat.le_trans B0.size MM.size) (by show _ ≤ (W1.alloc o).heap.size; simp)
  have hO := L0 O (.inl rfl)
  have m5 : Mut (fun k => k = O) w5 (w5.setCell ⟨O, 0, none⟩ (.slice a5 (n + 1) q5)) := Mut.set w5 O 0 _ rfl
  rw [ev_add] at ho5
  refine ⟨_, ⟨?_, owns_mut ho5 m5 (fun k e hk => ?_), ⟨D, map_mut (((OM.alloc o).drew).kept hg5 (fun e => (hgO M e.symm).2 rfl)) m5 (fun e => hOM e.symm), s1, HP⟩, HI.1, HI.2⟩, fun k hk => ?_, ?_⟩
  · rw [heap_setCell_same w5 O 0 _ _ _ BO]; rfl
  · subst hk
    rcases hob5 with h | h
    · exact (hgO k (h.symm.trans e)).1 rfl
    · rw [h] at e
      have := Option.some.inj e
      omega
  · rcases hob5 with h | h
    · exact .inl (h.symm.trans hk)
    · rw [h] at hk
      have := Option.some.inj hk
      exact .inr (by omega)
  · have a1 : Mut (own O M (.slice a n cap)) w W0 := Mut.ofBelow B0 _
    have a2 : Mut (own O M (.slice a n cap)) W0 W1 := MM.mono (fun k e => .inr (.inl e))
    have a3 : Mut (own O M (.slice a n cap)) W1 ((W1.alloc o).drew) := Mut.ofBelow ((Below.refl _ _).alloc (Nat.le_refl _) _).drew _
    have a4 : Mut (own O M (.slice a n cap)) ((W1.alloc o).drew) w5 := grown_mut hg5 (fun k e => .inr (.inr e))
    have a5' : Mut (own O M (.slice a n cap)) w5 (w5.setCell ⟨O, 0, none⟩ (.slice a5 (n + 1) q5)) := m5.mono (fun k e => .inl e)
    exact (((a1.trans a2 (fun _ _ e => e)).trans a3 (fun _ _ e => e)).trans a4 (fun _ _ e => e)).trans a5' (fun _ _ e => e)
section
variable {w : World} {O M n : Nat} {v : Value} {f : Nat → Ent}
set_option maxRecDepth 100000 in
set_option maxHeartbeats 3200000 in
theorem push_calls (h : Ag w O v M n f) (x : Ent) (hx : (key x.1).wf = true) (hno : ∀ k, k < n → (f k).1 ≠ x.1) (hn : n ≤ 100000) :
    Calls Try.prog 102 #[pt O, .iface 63 (va x)] w fun e w' => e = .returned (.tuple #[]) ∧ ∃ v', Ag w' O v' M (n + 1) (fun k => if k < n then f k else x) ∧ Same w v v' ∧ Mut (own O M v) w w' := by
  obtain ⟨i0, hi0, hz0, hz1, hz2⟩ := info_parts Try.infoE
  obtain ⟨x0, x1, x2⟩ := x
  simp only at hx hno
  obtain ⟨a, cap, rfl⟩ := h.sl
  have A0 := hid (h.below ((Below.refl w.heap.size w).alloc (Nat.le_refl _) (.cells #[.int .i64 x0, .int .i64 x1, .int .i64 x2] 63)))
  have B0 := hid ((Below.refl w.heap.size w).alloc (Nat.le_refl _) (.cells #[.int .i64 x0, .int .i64 x1, .int .i64 x2] 63))
  have L0 := hid (show ∀ k, own O M (.slice a n cap) k → k < w.heap.size from fun k hk => h.lt hk)
  obtain ⟨W0, hW0⟩ : ∃ W, w.alloc (.cells #[.int .i64 x0, .int .i64 x1, .int .i64 x2] 63) = W := ⟨_, rfl⟩
  have n0 : W0.cell? ⟨w.heap.size, 0, none⟩ = some (.int .i64 x0) ∧ W0.cell? ⟨w.heap.size, 1, none⟩ = some (.int .i64 x1) ∧ W0.cell? ⟨w.heap.size, 2, none⟩ = some (.int .i64 x2) := by rw [← hW0]; simp
  rw [hW0] at A0 B0
  obtain ⟨D, hD, hs, hP⟩ := A0.out.map
  have hOM := A0.out.neOM
  have hgO : ∀ g, (Value.slice a n cap).ownBlock = some g → g ≠ O ∧ g ≠ M := fun g e => A0.out.neg e
  have hKM : w.heap.size ≠ M := by have := L0.out M (.inr (.inl rfl)); omega
  have hKO : w.heap.size ≠ O := by have := L0.out O (.inl rfl); omega
  obtain ⟨W1, r1, o1, t1⟩ := put_run hD.drew (by omega) x0 n hx (wf_nat (by omega))
  have tD := hD.tidy (int_keyed Try.underlying3)
  have hnot : ¬ Maps.has D (key x0) = true := fun e => by
    obtain ⟨k, hk, hq⟩ := (hP _ hx).1.1 e
    exact hno k hk hq
  have s1 : Maps.size (D.put (key x0) (.lit (.int .i64 (n : Int)))) = n + 1 := by rw [size_put tD, if_neg hnot, hs]
  rw [s1] at o1
  have m1 : Mut (fun k => k = M) W0 W1 := (Mut.refl _ W0).drew.trans (turned_mut t1 (S := fun k => k = M) rfl) (fun _ _ e => e)
  have hPn := hP.put hD.isMap (x0, x1, x2) hx hno
  have blk1 := (m1.block O A0.out.ltO hOM).trans A0.out.blk
  have ro1 := owns_mut A0.out.row m1 (fun k e => (hgO k e).2)
  have hltK : w.heap.size < W0.heap.size := by rw [← hW0]; simp
  have HI := hid (show Inj (fun e : Ent => e.1) (fun k => if k < n then f k else (x0, x1, x2)) (n + 1) ∧ Wf (fun k => if k < n then f k else (x0, x1, x2)) (n + 1) from ⟨fun i j hi hj hq => by
    by_cases h1 : i < n <;> by_cases h2 : j < n <;> simp only [h1, h2, if_true, if_false] at hq
    · exact h.inj i j h1 h2 hq
    · exact absurd hq (hno i h1)
    · exact absurd hq.symm (hno j h2)
    · omega, fun k hk => by
    by_cases h1 : k < n <;> simp only [h1, if_true, if_false]
    · exact h.wf k h1
    · exact hx⟩)
  have K0 := hid (show W0.cell? ⟨O, 0, none⟩ = some (.slice a n cap) ∧ W0.cell? ⟨O, 1, none⟩ = some (.map (some M)) ∧ W0.cell? ⟨w.heap.size, 0, none⟩ = some (.int .i64 x0) from ⟨A0.out.c0, A0.out.c1, n0.1⟩)
  have K1 := hid (show W1.cell? ⟨O, 0, none⟩ = some (.slice a n cap) ∧ W1.cell? ⟨O, 1, none⟩ = some (.map (some M)) ∧ W1.cell? ⟨w.heap.size, 0, none⟩ = some (.int .i64 x0) from ⟨by simp [World.cell?, blk1], by simp [World.cell?, blk1], (m1.cell hltK hKM).trans n0.1⟩)
  have N1 := hid (show W1.cell? ⟨w.heap.size, 1, none⟩ = some (.int .i64 x1) ∧ W1.cell? ⟨w.heap.size, 2, none⟩ = some (.int .i64 x2) from ⟨(m1.cell hltK hKM).trans n0.2.1, (m1.cell hltK hKM).trans n0.2.2⟩)
  have R1 := hid r1
  have RO := hid ro1
  have OM := hid o1
  have BL := hid blk1
  have MM := hid m1
  have HP := hid hPn
  have HS := hid s1
  clear h hD hs hP tD hnot s1 m1 o1 hPn blk1 ro1 t1 r1 n0 A0
  go_enter Try.func102, Try.ntmps102
  unfold va
  have hta := ta_e x0 x1 x2
  go_wp2_with fail
  clear hW0
  have r1 := R1.out
  obtain ⟨d0, d1, d2⟩ := K0.out
  go_region
  clear d0 d1 d2 r1 K0 R1
  obtain ⟨d0, d1, d2⟩ := K1.out
  obtain ⟨d3, d4⟩ := N1.out
  have c0a := cell_al d0 (.cells #[.int .i64 x0, .int .i64 x1, .int .i64 x2] 63)
  have f0 : W1.frozen? ⟨O, 0, none⟩ = false := by simp [World.frozen?, BL.out]
  go_wp2_with fail
  go_region_law
    (first | (refine step_append_src (by rfl) _ _ _ (by rfl) 0 63 i0 _ 3 24 Try.underlying97 hi0 hz0 hz1 hz2 rfl (by omega) (.slice a n cap) n (ev f n) (by rfl) ((RO.out.alloc _).drew) (some ⟨W1.heap.size, 0, none⟩) 1 1 [.int .i64 x0, .int .i64 x1, .int .i64 x2] (by rfl) ((Src.new (w := W1) #[.int .i64 x0, .int .i64 x1, .int .i64 x2] 63 W1.heap.size rfl rfl (by simp [Value.oneCell'])).below (Below.refl _ _).drew) (by unfold maxLen; omega) (by omega) (Nat.zero_le _) ?_; intro v5 w5 ho5 hg5 hob5; have O5 := hid ho5; have G5 := hid hg5; have P5 := hid hob5; clear ho5 hg5 hob5; obtain ⟨a5, q5, rfl⟩ := own_sl O5.out; have BO := hid (blk_grown BL.out G5.out (fun e => (hgO O e.symm).1 rfl)); have x5 : w5.cell? ⟨O, 0, none⟩ = some (.slice a n cap) := (by simp [World.cell?, BO.out]); have z5 : w5.frozen? ⟨O, 0, none⟩ = false := (by simp [World.frozen?, BO.out])))
  all_goals
    go_wp2_with fail
    go_end0
    exact ⟨rfl, push_fin L0.out B0.out MM.out OM.out HS.out HP.out HI.out hgO hOM O5.out G5.out P5.out BO.out⟩
set_option maxRecDepth 100000 in
set_option maxHeartbeats 3200000 in
theorem pop_calls (h : Ag w O v M (n + 1) f) (hn : n ≤ 100000) :
    Calls Try.prog 101 #[pt O] w fun e w' => e = .returned (.iface 63 (va (f n))) ∧ ∃ v', Ag w' O v' M n f ∧ v'.ownBlock = v.ownBlock ∧ Mut (own O M v) w w' := by
  obtain ⟨g, cap, rfl, h1, h2⟩ := h.pos (by omega)
  have c0 := h.c0
  have c1 := h.c1
  obtain ⟨p0, p1, p2⟩ := h.at' (i := n) (by omega)
  obtain ⟨⟨x0, x1, x2⟩, hx⟩ : ∃ x, f n = x := ⟨_, rfl⟩
  rw [hx] at p0 p1 p2 ⊢
  simp only at p0 p1 p2
  obtain ⟨hgO, hgM⟩ := h.neg (g := g) rfl
  have hOM := h.neOM
  have hltO := h.ltO
  have hltM := h.ltM
  obtain ⟨D, hD, hs, hP⟩ := h.map
  have tD := hD.tidy (int_keyed Try.underlying3)
  have wn := h.wf n (by omega)
  rw [hx] at wn
  obtain ⟨Wa, hWa⟩ : ∃ W, w.alloc (.cells #[.int .i64 x0, .int .i64 x1, .int .i64 x2] 63) = W := ⟨_, rfl⟩
  have na : Wa.cell? ⟨w.heap.size, 0, none⟩ = some (.int .i64 x0) ∧ Wa.cell? ⟨w.heap.size, 1, none⟩ = some (.int .i64 x1) ∧ Wa.cell? ⟨w.heap.size, 2, none⟩ = some (.int .i64 x2) ∧ Wa.heap.size = w.heap.size + 1 := by rw [← hWa]; simp
  have ba := (Below.refl w.heap.size w).alloc (Nat.le_refl _) (.cells #[.int .i64 x0, .int .i64 x1, .int .i64 x2] 63)
  rw [hWa] at ba
  have Aa := h.below ba
  have c0a := Aa.c0
  have f0a := Aa.fz 0
  obtain ⟨W1, hW1⟩ : ∃ W, Wa.setCell ⟨O, 0, none⟩ (.slice (some ⟨g, 0, none⟩) n cap) = W := ⟨_, rfl⟩
  have m1 : Mut (fun k => k = O) Wa W1 := by rw [← hW1]; exact Mut.set Wa O 0 _ rfl
  have blk1 : W1.heap[O]? = some (.cells #[.slice (some ⟨g, 0, none⟩) n cap, .map (some M)] 102 (0, 0)) := by
    rw [← hW1, heap_setCell_same Wa O 0 _ _ _ Aa.blk]; rfl
  have hD1 := map_mut (h.below ba).map.choose_spec.1 m1 (fun e => hOM e.symm)
  have hltK : w.heap.size < Wa.heap.size := by omega
  have D1 : W1.ownsMap Try.prog 3 (plainElem Try.prog 3) M (n + 1) D := map_mut (map_mut hD (Mut.ofBelow ba (fun _ => False)) (fun e => e)) m1 (fun e => hOM e.symm)
  have ro1 := own_cut (owns_mut Aa.row m1 (fun k e => by cases e; exact hgO))
  obtain ⟨W2, r2, o2, t2⟩ := del_run D1.drew x0 wn 0
  have m2 : Mut (fun k => k = M) W1 W2 := (Mut.refl _ W1).drew.trans (turned_mut t2 (S := fun k => k = M) rfl) (fun _ _ e => e)
  have hPd := hP.del h.inj
  rw [hx] at hPd
  have has : Maps.has D (key x0) = true := (hP _ wn).1.2 ⟨n, by omega, by rw [hx]⟩
  have s2 : Maps.size (D.del (key x0)) = n := by
    have := size_del tD (k := key x0)
    rw [if_pos has, hs] at this
    omega
  rw [s2] at o2
  have lt1 := m1.size
  have blk2 := (m2.block O (Nat.lt_of_lt_of_le Aa.ltO lt1) hOM).trans blk1
  have ro2 := owns_mut ro1 m2 (fun k e => by cases e; exact hgM)
  have FIN := hid (show Ag W2 O (.slice (some ⟨g, 0, none⟩) n cap) M n f ∧ Mut (own O M (.slice (some ⟨g, 0, none⟩) (n + 1) cap)) w W2 from
    ⟨⟨blk2, ro2, ⟨_, o2, s2, hPd⟩, fun i j hi hj hq => h.inj i j (by omega) (by omega) hq, fun k hk => h.wf k (by omega)⟩,
      (Mut.ofBelow ba _).trans ((m1.mono (S' := own O M (.slice (some ⟨g, 0, none⟩) (n + 1) cap)) (fun k e => .inl e)).trans (m2.mono (S' := own O M (.slice (some ⟨g, 0, none⟩) (n + 1) cap)) (fun k e => .inr (.inl e))) (fun _ _ e => e)) (fun _ _ e => e)⟩)
  have K1 := hid (show W1.cell? ⟨O, 1, none⟩ = some (.map (some M)) ∧ W1.cell? ⟨w.heap.size, 0, none⟩ = some (.int .i64 x0) from ⟨by simp [World.cell?, blk1], (m1.cell hltK (by omega)).trans na.1⟩)
  have q2 : ∀ j, W2.cell? ⟨w.heap.size, j, none⟩ = Wa.cell? ⟨w.heap.size, j, none⟩ := fun j => (m2.cell (Nat.lt_of_lt_of_le hltK lt1) (by omega)).trans (m1.cell hltK (by omega))
  have N2 := hid (show W2.cell? ⟨w.heap.size, 0, none⟩ = some (.int .i64 x0) ∧ W2.cell? ⟨w.heap.size, 1, none⟩ = some (.int .i64 x1) ∧ W2.cell? ⟨w.heap.size, 2, none⟩ = some (.int .i64 x2) from ⟨(q2 0).trans na.1, (q2 1).trans na.2.1, (q2 2).trans na.2.2.1⟩)
  have R2 := hid r2
  have k0 : (0 : Int) ≤ n := by omega
  have e1 : IntKind.i64.wrap ((n : Int) + 1 - 1) = n := by rw [i64_in (by omega) (by omega)]; omega
  clear h hD hs hP tD wn na ba Aa m1 blk1 hD1 D1 ro1 m2 hPd has s2 blk2 ro2 q2 r2 o2 t2
  go_enter Try.func101, Try.ntmps101
  go_wp2_with fail
  clear hWa hW1 c0a f0a p0 p1 p2 c0 c1
  obtain ⟨d0, d1⟩ := K1.out
  have r2 := R2.out
  go_region
  clear d0 d1 r2 K1 R2
  obtain ⟨d0, d1, d2⟩ := N2.out
  go_wp2_with fail
  go_ret
  exact ⟨rfl, _, FIN.out.1, rfl, FIN.out.2⟩
end
end Go.Proofs.Ytcjakjmhghoilaa

/-
  Walks of the library's heap over an agenda's row: up, down.
-/
namespace Go.Proofs.Ytcjakjmhghoilaa
open Go.RowKit Go.Maps Hp
set_option linter.unusedVariables false
abbrev ifc (O : Nat) : Value := .iface 96 (.pointer (some ⟨O, 0, none⟩))
theorem m_len (O : Nat) (w : World) : (method 257 96 (.pointer (some ⟨O, 0, none⟩)) "Len").run Try.prog w = .ok (58, .pointer (some ⟨O, 0, none⟩)) w := by kernel_rfl
theorem m_less (O : Nat) (w : World) : (method 257 96 (.pointer (some ⟨O, 0, none⟩)) "Less").run Try.prog w = .ok (100, .pointer (some ⟨O, 0, none⟩)) w := by kernel_rfl
theorem m_swap (O : Nat) (w : World) : (method 257 96 (.pointer (some ⟨O, 0, none⟩)) "Swap").run Try.prog w = .ok (103, .pointer (some ⟨O, 0, none⟩)) w := by kernel_rfl
theorem m_push (O : Nat) (w : World) : (method 257 96 (.pointer (some ⟨O, 0, none⟩)) "Push").run Try.prog w = .ok (102, .pointer (some ⟨O, 0, none⟩)) w := by kernel_rfl
theorem m_pop (O : Nat) (w : World) : (method 257 96 (.pointer (some ⟨O, 0, none⟩)) "Pop").run Try.prog w = .ok (101, .pointer (some ⟨O, 0, none⟩)) w := by kernel_rfl
/-- The first m places of a row have been exchanged among themselves. -/
structure Mix (f g : Nat → Ent) (m : Nat) : Prop where
  far : ∀ k, m ≤ k → g k = f k
  cont : ∀ e, Cont g m e ↔ Cont f m e
theorem Mix.refl (f : Nat → Ent) (m : Nat) : Mix f f m := ⟨fun _ _ => rfl, fun _ => Iff.rfl⟩
theorem Mix.swap {f g : Nat → Ent} {m i j : Nat} (h : Mix f g m) (hi : i < m) (hj : j < m) : Mix f (swp g i j) m :=
  ⟨fun k hk => by rw [swp_o g (by omega) (by omega)]; exact h.far k hk, fun e => (swp_cont hi hj e).trans (h.cont e)⟩
theorem Mix.trans {f g k : Nat → Ent} {m : Nat} (h : Mix f g m) (h' : Mix g k m) : Mix f k m := ⟨fun i hi => (h'.far i hi).trans (h.far i hi), fun e => (h'.cont e).trans (h.cont e)⟩
section
variable {w : World} {O M n m : Nat} {v : Value} {f : Nat → Ent}
set_option maxRecDepth 100000 in
set_option maxHeartbeats 3200000 in
theorem up_calls (h : Ag w O v M n f) {j0 : Nat} (hm : m ≤ n) (hj0 : j0 < m) (hn : n ≤ 100000) (hU : UInv lt f m j0) :
    Calls Try.prog 75 #[ifc O, .int .i64 (j0 : Int)] w fun e w' => e = .returned (.tuple #[]) ∧ ∃ g, Ag w' O v M n g ∧ Heap lt g m ∧ Mix f g m ∧ Mut (own O M v) w w' := by
  have HH := hid h
  have HU := hid hU
  have ml := m_less O
  have ms := m_swap O
  clear h hU
  go_enter Try.func75, Try.ntmps75
  go_wp2_with fail
  go_loopg [1] j0 (fun r jv wr => ∃ (j : Nat) (g : Nat → Ent), j = r ∧ jv = .int .i64 (j : Int) ∧ j < m ∧ Hid (Ag wr O v M n g) ∧ Hid (UInv lt g m j) ∧ Hid (Mix f g m) ∧ Hid (Mut (own O M v) w wr))
  case atStart => exact ⟨j0, f, rfl, rfl, hj0, HH, HU, hid (Mix.refl f m), hid (Mut.refl _ w)⟩
  case round =>
    obtain ⟨j, g, rfl, rfl, hj, HA, HV, HX, HM⟩ := hrel
    obtain ⟨p, hp⟩ : ∃ p : Nat, p = (j - 1) / 2 := ⟨_, rfl⟩
    have e1 : IntKind.i64.wrap ((j : Int) - 1) = j - 1 := i64_in (by omega) (by omega)
    have e2 : ((j : Int) - 1).tdiv 2 = p := by
      rcases Nat.eq_zero_or_pos j with h0 | h0
      · subst h0; subst hp; rfl
      · rw [Int.tdiv_eq_ediv_of_nonneg (by omega)]; omega
    have e3 : IntKind.i64.wrap (p : Int) = p := i64_in (by omega) (by omega)
    by_cases h0 : j = 0
    · have t0 : ((p : Int) == (j : Int)) = true := by subst h0; subst hp; rfl
      have HD := hid (HV.out.stop (.inl h0))
      clear hp h0
      go_wp2_with fail
      go_end0
      exact ⟨rfl, g, HA.out, HD.out, HX.out, HM.out⟩
    · have hpp : p = par j := by unfold par; exact hp
      have hlt : p < j := by rw [hpp]; exact par_lt (by omega)
      have t0 : ((p : Int) == (j : Int)) = false := by simp; omega
      have HP := hid hpp
      clear hp hpp
      go_wp2_with fail
      refine (less_calls HA.out (i := j) (j := p) (by omega) (by omega) (by omega)).mono ?_
      rintro e w1 ⟨⟨t, rfl, ht⟩, b1⟩
      have A1 := hid (HA.out.below b1)
      have M1 := hid (HM.out.trans (Mut.ofBelow b1 (own O M v)) (fun _ _ e => e))
      have HT := hid ht
      clear ht b1 HA HM
      cases t
      · have HD := hid (HV.out.stop (.inr (by rw [← HP.out]; exact fun e => absurd (HT.out.2 e) (by decide))))
        go_wp2_with fail
        go_end0
        exact ⟨rfl, g, A1.out, HD.out, HX.out, M1.out⟩
      · have HL := hid (show lt (g j) (g p) from HT.out.1 rfl)
        go_wp2_with fail
        refine (swap_calls A1.out (i := p) (j := j) (by omega) (by omega) (by omega)).mono ?_
        rintro e w2 ⟨rfl, a2, m2⟩
        have A2 := hid a2
        have M2 := hid (M1.out.trans m2 (fun _ _ e => e))
        have V2 := hid (show UInv lt (swp g p j) m p from by rw [HP.out]; exact HV.out.step lt_ord (by omega) hj (by rw [← HP.out]; exact HL.out))
        have X2 := hid (HX.out.swap (i := p) (j := j) (by omega) hj)
        clear a2 m2 A1 M1 HV HX HT HL
        go_wp2_with fail
        go_roundg p
        case measure => omega
        case rel => exact ⟨p, _, rfl, rfl, by omega, A2, V2, X2, M2⟩
end
end Go.Proofs.Ytcjakjmhghoilaa
