/-
  Agendas in memory: a block of two cells (a row of entries, a map from places to where they stand), told by a function of the place in the row.
-/
import Derived.Test.YtadkiikakgmpnaaChecked
import Derived.Test.YtadkiikakgmpnaaHpMath
import Derived.Test.YtadkiikakgmpnaaRs
import Derived.Test.YtadkiikakgmpnaaMutF
import Derived.Maps.OwnSet
import Derived.Maps.Views
namespace Go.Proofs.Ytadkiikakgmpnaa
open Go.RowKit Go.Maps Hp
set_option linter.unusedVariables false

/-- An entry as a value; the cells of n entries. -/
def va (e : Ent) : Value := .agg #[.int .i64 e.1, .int .i64 e.2.1, .int .i64 e.2.2]
def ev (f : Nat → Ent) (n : Nat) : List Value := fvals (fun i => (f i).1) (fun i => (f i).2.1) (fun i => (f i).2.2) n
theorem ev_length (f : Nat → Ent) (n : Nat) : (ev f n).length = n * 3 := fvals_length _ _ _ n
theorem ev_get (f : Nat → Ent) (n i : Nat) (h : i < n) : (ev f n)[i * 3]? = some (.int .i64 (f i).1) ∧ (ev f n)[i * 3 + 1]? = some (.int .i64 (f i).2.1) ∧ (ev f n)[i * 3 + 2]? = some (.int .i64 (f i).2.2) := fvals_get _ _ _ n i h
theorem ev_snoc (f : Nat → Ent) (n : Nat) : ev f n ++ [.int .i64 (f n).1, .int .i64 (f n).2.1, .int .i64 (f n).2.2] = ev f (n + 1) := fvals_snoc _ _ _ n
theorem ev_congr {f g : Nat → Ent} {n : Nat} (h : ∀ i, i < n → f i = g i) : ev f n = ev g n :=
  fvals_congr (fun i hi => by rw [h i hi]) (fun i hi => by rw [h i hi]) (fun i hi => by rw [h i hi])
theorem ev_one (f : Nat → Ent) (n : Nat) : ∀ u ∈ ev f n, u.oneCell' = true := fvals_one _ _ _ n
/-- One place turned. -/
def ch (f : Nat → Ent) (i : Nat) (e : Ent) : Nat → Ent := fun k => if k = i then e else f k
theorem ch_eq (f : Nat → Ent) (i : Nat) (e : Ent) : ch f i e i = e := by simp [ch]
theorem ch_ne {f : Nat → Ent} {i k : Nat} {e : Ent} (h : k ≠ i) : ch f i e k = f k := by simp [ch, h]
theorem ch_swp (f : Nat → Ent) (i j : Nat) : ch (ch f i (f j)) j (f i) = swp f i j := by
  funext k
  unfold ch swp
  by_cases h1 : k = j
  · by_cases h2 : k = i
    · subst h1; subst h2; simp
    · rw [if_pos h1, if_neg h2, if_pos h1]
  · rw [if_neg h1]
    by_cases h2 : k = i
    · rw [if_pos h2, if_pos h2]
    · rw [if_neg h2, if_neg h2, if_neg h1]
theorem ev_ch (f : Nat → Ent) {n i : Nat} (e : Ent) (hi : i < n) :
    (((ev f n).set (i * 3) (.int .i64 e.1)).set (i * 3 + 1) (.int .i64 e.2.1)).set (i * 3 + 2) (.int .i64 e.2.2) = ev (ch f i e) n := by
  apply List.ext_getElem?
  intro j
  have hl := ev_length f n
  by_cases hj : j < n * 3
  · obtain ⟨q, r, hr, rfl⟩ : ∃ q r, r < 3 ∧ j = q * 3 + r := ⟨j / 3, j % 3, by omega, by omega⟩
    have hq : q < n := by omega
    obtain ⟨a0, a1, a2⟩ := ev_get f n q hq
    obtain ⟨b0, b1, b2⟩ := ev_get (ch f i e) n q hq
    simp only [List.getElem?_set, List.length_set, hl]
    by_cases hqi : q = i
    · subst hqi
      rw [ch_eq] at b0 b1 b2
      obtain rfl | rfl | rfl : r = 0 ∨ r = 1 ∨ r = 2 := by omega
      · rw [if_neg (by omega), if_neg (by omega), if_pos (by omega), if_pos (by omega)]; exact b0.symm
      · rw [if_neg (by omega), if_pos rfl, if_pos (by omega)]; exact b1.symm
      · rw [if_pos rfl, if_pos (by omega)]; exact b2.symm
    · rw [ch_ne hqi] at b0 b1 b2
      rw [if_neg (by omega), if_neg (by omega), if_neg (by omega)]
      obtain rfl | rfl | rfl : r = 0 ∨ r = 1 ∨ r = 2 := by omega
      · exact a0.trans b0.symm
      · exact a1.trans b1.symm
      · exact a2.trans b2.symm
  · rw [List.getElem?_eq_none (by simp only [List.length_set, hl]; omega), List.getElem?_eq_none (by rw [ev_length]; omega)]
/-- Three stores into block B, as one step. -/
def set3 (w : World) (B i : Nat) (e : Ent) : World := ((w.setCell ⟨B, i, none⟩ (.int .i64 e.1)).setCell ⟨B, i + 1, none⟩ (.int .i64 e.2.1)).setCell ⟨B, i + 2, none⟩ (.int .i64 e.2.2)
theorem set3_mut (w : World) (B i : Nat) (e : Ent) {S : Nat → Prop} (hb : S B) : Mut S w (set3 w B i e) :=
  ((Mut.set w B i _ hb).trans (Mut.set _ B (i + 1) _ hb) (fun _ _ h => h)).trans (Mut.set _ B (i + 2) _ hb) (fun _ _ h => h)
theorem set3_own {w : World} {base : Nat} {ty : TypeId} {g n cap i : Nat} {f : Nat → Ent} (h : w.ownsRow base ty 3 (.slice (some ⟨g, 0, none⟩) n cap) n (ev f n)) (e : Ent) (hi : i < n) :
    (set3 w g (i * 3) e).ownsRow base ty 3 (.slice (some ⟨g, 0, none⟩) n cap) n (ev (ch f i e) n) := by
  have := (((h.stored (i * 3) (.int .i64 e.1)).1.stored (i * 3 + 1) (.int .i64 e.2.1)).1.stored (i * 3 + 2) (.int .i64 e.2.2)).1
  rwa [ev_ch f e hi] at this
theorem owns_mut {w w' : World} {base n size : Nat} {e : TypeId} {v : Value} {xs : List Value} {S : Nat → Prop} (h : w.ownsRow base e size v n xs) (hm : Mut S w w') (hS : ∀ k, v.ownBlock = some k → ¬ S k) : w'.ownsRow base e size v n xs := by
  refine ⟨h.1, ?_⟩
  rcases h.2 with hn | ⟨g, cap, cur, hv, hB, hg, rest⟩
  · exact .inl hn
  · refine .inr ⟨g, cap, cur, hv, hB, ?_, rest⟩
    rw [hm.block g (Array.getElem?_eq_some_iff.1 hg).1 (hS g (by rw [hv]; rfl))]
    exact hg
theorem map_mut {H : Type} {P : Program} {k : TypeId} {R : Value → Option (DataW H × List MemPlace)} {w w' : World} {b n : Nat} {D : DataW H} {S : Nat → Prop} (h : w.ownsMap P k R b n D) (hm : Mut S w w') (hS : ¬ S b) : w'.ownsMap P k R b n D := by
  have hlt := h.lt
  obtain ⟨es, clock, h1, r⟩ := h
  exact ⟨es, clock, (hm.block b hlt hS).trans h1, r⟩
theorem map_fit {H : Type} {P : Program} {k : TypeId} {R : Value → Option (DataW H × List MemPlace)} {w : World} {b n : Nat} {D : DataW H} (h : w.ownsMap P k R b n D) : w.ownsMap P k R b (Maps.size D) D := by
  obtain ⟨es, clock, h1, F, hs, rfl⟩ := h
  refine ⟨es, clock, h1, F, ?_, rfl⟩
  simp [Maps.size, length_sorted]
theorem turned_mut {w w' : World} {b : Nat} (h : w.mapTurned w' b) {S : Nat → Prop} (hb : S b) : Mut S w w' :=
  ⟨h.grown.os, h.grown.tape, h.grown.output, h.grown.size, fun k hk hn => h.grown.block k hk (fun e => hn (by cases e; exact hb))⟩

/-! ### which place stands where -/
def key (p : Int) : Lit := .int .i64 p
def PlD (f : Nat → Ent) (n : Nat) (D : DataW Unit) : Prop := ∀ p : Int, (key p).wf = true →
  (Maps.has D (key p) = true ↔ ∃ k, k < n ∧ (f k).1 = p) ∧ ∀ k, k < n → (f k).1 = p → ∀ z, D.atKey (key p) z = .lit (.int .i64 (k : Int))
theorem key_inj {p q : Int} (h : key p = key q) : p = q := by simpa [key] using h
theorem key_is {p : Int} (h : (key p).wf = true) : WideAt.IsKeyLit (key p) := by
  have h1 : keyOf Try.prog 3 (.int .i64 p) = some (key p) := keyOf_int_mk Try.underlying3 h
  exact (int_keyed Try.underlying3).key h1
def Wf (f : Nat → Ent) (n : Nat) : Prop := ∀ k, k < n → (key (f k).1).wf = true
theorem PlD.congr {f g : Nat → Ent} {n : Nat} {D : DataW Unit} (h : PlD f n D) (e : ∀ k, k < n → (f k).1 = (g k).1) : PlD g n D := fun p hp => by
  obtain ⟨h1, h2⟩ := h p hp
  refine ⟨h1.trans ⟨fun ⟨k, hk, hq⟩ => ⟨k, hk, by rw [← e k hk]; exact hq⟩, fun ⟨k, hk, hq⟩ => ⟨k, hk, by rw [e k hk]; exact hq⟩⟩, fun k hk hq => h2 k hk (by rw [e k hk]; exact hq)⟩
/-- Two entries exchanged. -/
theorem PlD.swap {f : Nat → Ent} {n i j : Nat} {D : DataW Unit} (hD : IsMap D) (h : PlD f n D) (hI : Inj (fun e : Ent => e.1) f n) (hW : Wf f n) (hi : i < n) (hj : j < n) :
    PlD (swp f i j) n ((D.put (key (swp f i j i).1) (.lit (.int .i64 (i : Int)))).put (key (swp f i j j).1) (.lit (.int .i64 (j : Int)))) := by
  rw [swp_l, swp_r]
  have k1 := key_is (hW j hj)
  have k2 := key_is (hW i hi)
  have hD1 : IsMap (D.put (key (f j).1) (.lit (.int .i64 (i : Int)))) := hD.put _ _
  have hI2 := swp_inj hi hj hI
  intro p hp
  obtain ⟨h1, h2⟩ := h p hp
  have cs : (∃ k, k < n ∧ (swp f i j k).1 = p) ↔ ∃ k, k < n ∧ (f k).1 = p := by
    constructor
    · rintro ⟨k, hk, rfl⟩
      obtain ⟨k', hk', e⟩ := (swp_cont (f := f) hi hj _).1 ⟨k, hk, rfl⟩
      exact ⟨k', hk', by rw [e]⟩
    · rintro ⟨k, hk, rfl⟩
      obtain ⟨k', hk', e⟩ := (swp_cont (f := f) hi hj _).2 ⟨k, hk, rfl⟩
      exact ⟨k', hk', by rw [e]⟩
  rw [cs]
  by_cases e2 : p = (f i).1
  · subst e2
    refine ⟨⟨fun _ => ⟨i, hi, rfl⟩, fun _ => has_put_same hD1 k2 _⟩, fun k hk hq z => ?_⟩
    rw [atKey_put_same hD1 k2]
    have : k = j := hI2 k j hk hj (by show (swp f i j k).1 = (swp f i j j).1; rw [hq, swp_r])
    rw [this]
  · have n2 : key p ≠ key (f i).1 := fun e => e2 (key_inj e)
    rw [has_put_other n2]
    by_cases e1 : p = (f j).1
    · subst e1
      refine ⟨⟨fun _ => ⟨j, hj, rfl⟩, fun _ => has_put_same hD k1 _⟩, fun k hk hq z => ?_⟩
      rw [atKey_put_other n2, atKey_put_same hD k1]
      have : k = i := hI2 k i hk hi (by show (swp f i j k).1 = (swp f i j i).1; rw [hq, swp_l])
      rw [this]
    · have n1 : key p ≠ key (f j).1 := fun e => e1 (key_inj e)
      rw [has_put_other n1]
      refine ⟨h1, fun k hk hq z => ?_⟩
      rw [atKey_put_other n2, atKey_put_other n1]
      have a1 : k ≠ i := fun e => e1 (by rw [← hq, e, swp_l])
      have a2 : k ≠ j := fun e => e2 (by rw [← hq, e, swp_r])
      rw [swp_o f a1 a2] at hq
      exact h2 k hk hq z
theorem PlD.put {f : Nat → Ent} {n : Nat} {D : DataW Unit} (hD : IsMap D) (h : PlD f n D) (e : Ent) (he : (key e.1).wf = true) (hn : ∀ k, k < n → (f k).1 ≠ e.1) :
    PlD (fun k => if k < n then f k else e) (n + 1) (D.put (key e.1) (.lit (.int .i64 (n : Int)))) := by
  intro p hp
  obtain ⟨h1, h2⟩ := h p hp
  by_cases hpe : p = e.1
  · subst hpe
    refine ⟨⟨fun _ => ⟨n, by omega, by simp⟩, fun _ => has_put_same hD (key_is he) _⟩, fun k hk hq z => ?_⟩
    rw [atKey_put_same hD (key_is he)]
    by_cases hkn : k < n
    · simp only [hkn, if_true] at hq
      exact absurd hq (hn k hkn)
    · have : k = n := by omega
      rw [this]
  · have ne : key p ≠ key e.1 := fun h => hpe (key_inj h)
    rw [has_put_other ne]
    refine ⟨h1.trans ⟨fun ⟨k, hk, hq⟩ => ⟨k, by omega, by simp only [hk, if_true]; exact hq⟩, fun ⟨k, hk, hq⟩ => ?_⟩, fun k hk hq z => ?_⟩
    · by_cases hkn : k < n
      · simp only [hkn, if_true] at hq
        exact ⟨k, hkn, hq⟩
      · simp only [hkn, if_false] at hq
        exact absurd hq.symm hpe
    · rw [atKey_put_other ne]
      by_cases hkn : k < n
      · simp only [hkn, if_true] at hq
        exact h2 k hkn hq z
      · simp only [hkn, if_false] at hq
        exact absurd hq.symm hpe
theorem PlD.del {f : Nat → Ent} {n : Nat} {D : DataW Unit} (h : PlD f (n + 1) D) (hI : Inj (fun e : Ent => e.1) f (n + 1)) : PlD f n (D.del (key (f n).1)) := by
  intro p hp
  obtain ⟨h1, h2⟩ := h p hp
  by_cases hpe : p = (f n).1
  · subst hpe
    have no : ∀ k, k < n → (f k).1 ≠ (f n).1 := fun k hk hq => by
      have := hI k n (by omega) (by omega) hq
      omega
    refine ⟨⟨fun h => ?_, fun ⟨k, hk, hq⟩ => absurd hq (no k hk)⟩, fun k hk hq => absurd hq (no k hk)⟩
    rw [has_del_same] at h
    cases h
  · have ne : key p ≠ key (f n).1 := fun h => hpe (key_inj h)
    rw [has_del_other ne]
    refine ⟨h1.trans ⟨fun ⟨k, hk, hq⟩ => ⟨k, ?_, hq⟩, fun ⟨k, hk, hq⟩ => ⟨k, by omega, hq⟩⟩, fun k hk hq z => ?_⟩
    · by_cases hkn : k = n
      · rw [hkn] at hq; exact absurd hq.symm hpe
      · omega
    · rw [atKey_del_other ne]
      exact h2 k (by omega) hq z

/-! ### an agenda -/
structure Ag (w : World) (O : Nat) (v : Value) (M n : Nat) (f : Nat → Ent) : Prop where
  blk : w.heap[O]? = some (.cells #[v, .map (some M)] 50 (0, 0))
  row : w.ownsRow 0 28 3 v n (ev f n)
  map : ∃ D, w.ownsMap Try.prog 3 (plainElem Try.prog 3) M n D ∧ Maps.size D = n ∧ PlD f n D
  inj : Inj (fun e : Ent => e.1) f n
  wf : Wf f n
/-- Its blocks. -/
def own (O M : Nat) (v : Value) : Nat → Prop := fun k => k = O ∨ k = M ∨ v.ownBlock = some k
section
variable {w : World} {O M n : Nat} {v : Value} {f : Nat → Ent}
theorem Ag.c0 (h : Ag w O v M n f) : w.cell? ⟨O, 0, none⟩ = some v := by simp [World.cell?, h.blk]
theorem Ag.c1 (h : Ag w O v M n f) : w.cell? ⟨O, 1, none⟩ = some (.map (some M)) := by simp [World.cell?, h.blk]
theorem Ag.fz (h : Ag w O v M n f) (j : Nat) : w.frozen? ⟨O, j, none⟩ = false := by simp [World.frozen?, h.blk]
theorem Ag.ltO (h : Ag w O v M n f) : O < w.heap.size := (Array.getElem?_eq_some_iff.1 h.blk).1
theorem Ag.ltM (h : Ag w O v M n f) : M < w.heap.size := by obtain ⟨D, h1, _⟩ := h.map; exact h1.lt
theorem Ag.lt (h : Ag w O v M n f) {k : Nat} (hk : own O M v k) : k < w.heap.size := by
  rcases hk with rfl | rfl | hk
  · exact h.ltO
  · exact h.ltM
  · exact (h.row.lt k hk).2
theorem Ag.neOM (h : Ag w O v M n f) : O ≠ M := fun e => by
  obtain ⟨D, ⟨es, clock, h1, _⟩, _⟩ := h.map
  rw [← e, h.blk] at h1
  cases h1
theorem Ag.neg (h : Ag w O v M n f) {g : Nat} (hg : v.ownBlock = some g) : g ≠ O ∧ g ≠ M := by
  rcases h.row.2 with ⟨rfl, _⟩ | ⟨g', cap, cur, rfl, _, hb, _⟩
  · cases hg
  · obtain rfl : g' = g := by simpa [Value.ownBlock] using hg
    refine ⟨fun e => ?_, fun e => ?_⟩
    · rw [e, h.blk] at hb
      simp only [Option.some.injEq, Obj.cells.injEq] at hb
      exact absurd hb.2.1 (by decide)
    · obtain ⟨D, ⟨es, clock, h1, _⟩, _⟩ := h.map
      rw [e, h1] at hb
      cases hb
theorem Ag.pos (h : Ag w O v M n f) (hn : 0 < n) : ∃ g cap, v = .slice (some ⟨g, 0, none⟩) n cap ∧ n ≤ cap ∧ cap ≤ maxLen := by
  rcases h.row.2 with ⟨_, h0⟩ | ⟨g, cap, cur, rfl, _, _, h1, h2, _⟩
  · omega
  · exact ⟨g, cap, rfl, h1, h2⟩
theorem Ag.sl (h : Ag w O v M n f) : ∃ a cap, v = .slice a n cap := by
  rcases h.row.2 with ⟨rfl, rfl⟩ | ⟨g, cap, cur, rfl, _, _, h1, h2, _⟩
  · exact ⟨none, 0, rfl⟩
  · exact ⟨_, cap, rfl⟩
theorem Ag.at' {g cap : Nat} (h : Ag w O (.slice (some ⟨g, 0, none⟩) n cap) M n f) {i : Nat} (hi : i < n) :
    w.cell? ⟨g, i * 3, none⟩ = some (.int .i64 (f i).1) ∧ w.cell? ⟨g, i * 3 + 1, none⟩ = some (.int .i64 (f i).2.1) ∧ w.cell? ⟨g, i * 3 + 2, none⟩ = some (.int .i64 (f i).2.2) := by
  obtain ⟨a0, a1, a2⟩ := ev_get f n i hi
  exact ⟨(h.row.cellAt _ (by omega)).trans a0, (h.row.cellAt _ (by omega)).trans a1, (h.row.cellAt _ (by omega)).trans a2⟩
theorem Ag.kept (h : Ag w O v M n f) {S : Nat → Prop} {w' : World} (hm : Mut S w w') (hS : ∀ k, own O M v k → ¬ S k) : Ag w' O v M n f :=
  ⟨by rw [hm.block O h.ltO (hS O (.inl rfl))]; exact h.blk, owns_mut h.row hm (fun k hk => hS k (.inr (.inr hk))), by
    obtain ⟨D, h1, h2⟩ := h.map
    exact ⟨D, map_mut h1 hm (hS M (.inr (.inl rfl))), h2⟩, h.inj, h.wf⟩
theorem Ag.below (h : Ag w O v M n f) {w' : World} (hb : Below w.heap.size w w') : Ag w' O v M n f := h.kept (Mut.ofBelow hb fun _ => False) fun _ _ e => e
theorem Ag.drew (h : Ag w O v M n f) : Ag w.drew O v M n f := h.below (Below.refl _ _).drew
theorem Ag.congr (h : Ag w O v M n f) {g : Nat → Ent} (e : ∀ k, k < n → f k = g k) : Ag w O v M n g :=
  ⟨h.blk, by rw [← ev_congr e]; exact h.row, by
    obtain ⟨D, h1, h2, h3⟩ := h.map
    exact ⟨D, h1, h2, h3.congr (fun k hk => by rw [e k hk])⟩, fun i j hi hj hq => h.inj i j hi hj (by show (f i).1 = (f j).1; rw [e i hi, e j hj]; exact hq), fun k hk => by have := h.wf k hk; rwa [e k hk] at this⟩
end
theorem Mut.mono {S S' : Nat → Prop} {w w' : World} (h : Mut S w w') (hS : ∀ k, S k → S' k) : Mut S' w w' := ⟨h.os, h.tape, h.output, h.size, fun k hk hn => h.block k hk (fun e => hn (hS k e))⟩
theorem Mut.drew {S : Nat → Prop} {w w' : World} (h : Mut S w w') : Mut S w w'.drew := ⟨h.os, h.tape, h.output, h.size, h.block⟩
end Go.Proofs.Ytadkiikakgmpnaa
