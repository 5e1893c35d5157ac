/-
  A cache in memory: a block of five cells, a row of entries, a map from keys to places.
-/
import Derived.Test.YtbcanfelfdalbaaChecked
import Derived.Test.YtbcanfelfdalbaaCaC
import Derived.Test.YtbcanfelfdalbaaLotG
import Derived.Test.YtbcanfelfdalbaaLotT
import Derived.Maps.OwnSet
import Derived.Maps.Views
import Derived.DeepKeys5
import Derived.WalkKit
namespace Go.Proofs.Ytbcanfelfdalbaa
open Go.RowKit Go.Maps Ca
set_option linter.unusedVariables false
/-- The cache's block and the row of its entries. -/
structure Cr (w : World) (B M g cap n room h m : Nat) (e : Nat → En) : Prop where
  blk : w.heap[B]? = some (.cells #[.int .i64 (room : Int), .map (some M), .slice (some ⟨g, 0, none⟩) n cap, .int .i64 (h : Int), .int .i64 (m : Int)] 53 (0, 0))
  row : w.ownsRow 0 57 4 (.slice (some ⟨g, 0, none⟩) n cap) n (ke e n)
  ne : B ≠ g
section
variable {w w' : World} {B M g cap n room h m : Nat} {e e' : Nat → En}
theorem Cr.lt (H : Cr w B M g cap n room h m e) : B < w.heap.size := (Array.getElem?_eq_some_iff.1 H.blk).1
theorem Cr.ltg (H : Cr w B M g cap n room h m e) : g < w.heap.size := (H.row.lt g rfl).2
theorem Cr.cells (H : Cr w B M g cap n room h m e) : w.cell? ⟨B, 0, none⟩ = some (.int .i64 (room : Int)) ∧ w.cell? ⟨B, 1, none⟩ = some (.map (some M)) ∧ w.cell? ⟨B, 2, none⟩ = some (.slice (some ⟨g, 0, none⟩) n cap) ∧ w.cell? ⟨B, 3, none⟩ = some (.int .i64 (h : Int)) ∧ w.cell? ⟨B, 4, none⟩ = some (.int .i64 (m : Int)) := by
  refine ⟨?_, ?_, ?_, ?_, ?_⟩ <;> simp [World.cell?, H.blk]
theorem Cr.fr (H : Cr w B M g cap n room h m e) (j : Nat) : w.frozen? ⟨B, j, none⟩ = false := by simp [World.frozen?, H.blk]
theorem Cr.cell (H : Cr w B M g cap n room h m e) {i : Nat} (hi : i < n) : w.cell? ⟨g, i * 4, none⟩ = some (.string (e i).k) ∧ w.cell? ⟨g, i * 4 + 1, none⟩ = some (sv (e i).v) ∧ w.cell? ⟨g, i * 4 + 2, none⟩ = some (.int .i64 ((e i).o : Int)) ∧ w.cell? ⟨g, i * 4 + 3, none⟩ = some (.int .i64 ((e i).n : Int)) := by
  obtain ⟨a0, a1, a2, a3⟩ := ke_get e hi
  exact ⟨(H.row.cellAt _ (by omega)).trans a0, (H.row.cellAt _ (by omega)).trans a1, (H.row.cellAt _ (by omega)).trans a2, (H.row.cellAt _ (by omega)).trans a3⟩
theorem Cr.fz (H : Cr w B M g cap n room h m e) (j : Nat) : w.frozen? ⟨g, j, none⟩ = false := H.row.frozenAt _
theorem Cr.any (H : Cr w B M g cap n room h m e) {j : Nat} (hj : j < n * 4) : ∃ u, w.cell? ⟨g, j, none⟩ = some u := by
  rw [H.row.cellAt j hj]
  exact ⟨_, List.getElem?_eq_getElem (by rw [ke_length]; exact hj)⟩
theorem Cr.mut (H : Cr w B M g cap n room h m e) {S : Nat → Prop} (hm : Mut S w w') (hB : ¬ S B) (hg : ¬ S g) : Cr w' B M g cap n room h m e :=
  ⟨(hm.block B H.lt hB).trans H.blk, own_mut H.row hm (fun k hk => by cases hk; exact hg), H.ne⟩
theorem Cr.below (H : Cr w B M g cap n room h m e) (hb : Below w.heap.size w w') : Cr w' B M g cap n room h m e := H.mut (Mut.ofBelow hb fun _ => False) id id
theorem Cr.set (H : Cr w B M g cap n room h m e) {j : Nat} {u : Value} (hs : (ke e n).set j u = ke e' n) : Cr (w.setCell ⟨g, j, none⟩ u) B M g cap n room h m e' :=
  ⟨(Below.heap_setCell _ _ _ _ (by simpa using H.ne)).trans H.blk, by
    have := (H.row.stored j u).1
    rwa [hs] at this, H.ne⟩
theorem Cr.set0 (H : Cr w B M g cap n room h m e) (i : Nat) (k : ByteArray) : Cr (w.setCell ⟨g, i * 4, none⟩ (.string k)) B M g cap n room h m (sK e i k) := H.set (ke_set0 e n i k)
theorem Cr.set1 (H : Cr w B M g cap n room h m e) (i : Nat) (v : Sv) (x : Pr.Row) : Cr (w.setCell ⟨g, i * 4 + 1, none⟩ (sv v)) B M g cap n room h m (sV e i v x) := H.set (ke_set1 e n i v x)
theorem Cr.set2 (H : Cr w B M g cap n room h m e) (i o : Nat) : Cr (w.setCell ⟨g, i * 4 + 2, none⟩ (.int .i64 (o : Int))) B M g cap n room h m (sO e i o) := H.set (ke_set2 e n i o)
theorem Cr.set3 (H : Cr w B M g cap n room h m e) (i o : Nat) : Cr (w.setCell ⟨g, i * 4 + 3, none⟩ (.int .i64 (o : Int))) B M g cap n room h m (sN e i o) := H.set (ke_set3 e n i o)
theorem Cr.hit (H : Cr w B M g cap n room h m e) : Cr (w.setCell ⟨B, 3, none⟩ (.int .i64 ((h : Int) + 1))) B M g cap n room (h + 1) m e :=
  ⟨by rw [heap_setCell_same w B 3 _ _ _ H.blk]; rfl, own_set H.row (fun e => H.ne (by cases e; rfl)) _, H.ne⟩
theorem Cr.miss (H : Cr w B M g cap n room h m e) : Cr (w.setCell ⟨B, 4, none⟩ (.int .i64 ((m : Int) + 1))) B M g cap n room h (m + 1) e :=
  ⟨by rw [heap_setCell_same w B 4 _ _ _ H.blk]; rfl, own_set H.row (fun e => H.ne (by cases e; rfl)) _, H.ne⟩
theorem Cr.drew (H : Cr w B M g cap n room h m e) : Cr w.drew B M g cap n room h m e := H.below (Below.refl _ _).drew
theorem Cr.congr (H : Cr w B M g cap n room h m e) (he : ∀ i, i < n → e i = e' i) : Cr w B M g cap n room h m e' := ⟨H.blk, by rw [← ke_congr he]; exact H.row, H.ne⟩
theorem Cr.le (H : Cr w B M g cap n room h m e) : n ≤ cap ∧ cap ≤ maxLen := by
  rcases H.row.2 with ⟨hv, _⟩ | ⟨g', cap', cur, hv, _, _, h1, h2, _⟩
  · cases hv
  · cases hv; exact ⟨h1, h2⟩
end

/-! ### Which key stands where -/
def ky (s : ByteArray) : Lit := .string s.data.toList
theorem ky_inj {s t : ByteArray} (h : ky s = ky t) : s = t := by
  unfold ky at h
  have : s.data.toList = t.data.toList := by simpa using h
  exact ByteArray.ext (Array.toList_inj.1 this)
theorem ky_is {s : ByteArray} (h : s.size ≤ maxLen) : WideAt.IsKeyLit (ky s) := (string_keyed Try.underlying9).key (Go.WideMaps.keyOf_string_mk Try.underlying9 h)
theorem cmap_mut {H : Type} {P : Program} {k : TypeId} {R : Value → Option (DataW H × List MemPlace)} {w w' : World} {b n : Nat} {D : DataW H} {S : Nat → Prop} (h : w.ownsMap P k R b n D) (hm : Mut S w w') (hS : ¬ S b) : w'.ownsMap P k R b n D := by
  have hlt := h.lt
  obtain ⟨es, clock, h1, r⟩ := h
  exact ⟨es, clock, (hm.block b hlt hS).trans h1, r⟩
theorem cmap_fit {H : Type} {P : Program} {k : TypeId} {R : Value → Option (DataW H × List MemPlace)} {w : World} {b n : Nat} {D : DataW H} (h : w.ownsMap P k R b n D) : w.ownsMap P k R b (Maps.size D) D := by
  obtain ⟨es, clock, h1, F, hs, rfl⟩ := h
  refine ⟨es, clock, h1, F, ?_, rfl⟩
  simp [Maps.size, length_sorted]
theorem cturned {w w' : World} {b : Nat} (h : w.mapTurned w' b) : Mut (fun k => k = b) w w' :=
  ⟨h.grown.os, h.grown.tape, h.grown.output, h.grown.size, fun k hk hn => h.grown.block k hk (fun e => hn (by cases e; rfl))⟩
/-- A map that says of each key where it stands. -/
def Mp (w : World) (M : Nat) (ks : List (ByteArray × Nat)) : Prop :=
  ∃ D : DataW Unit, w.ownsMap Try.prog 9 (plainElem Try.prog 3) M ks.length D ∧ Maps.size D = ks.length ∧
    ∀ s, (Maps.has D (ky s) = true ↔ ∃ i, (s, i) ∈ ks) ∧ ∀ i, (s, i) ∈ ks → ∀ z, D.atKey (ky s) z = .lit (.int .i64 (i : Int))
theorem Try.zeroIc (w : World) : (zeroValue 3).run Try.prog w = .ok (.int .i64 0) w := by kernel_rfl
section
variable {w w' : World} {M : Nat} {ks ks' : List (ByteArray × Nat)}
theorem Mp.lt (h : Mp w M ks) : M < w.heap.size := by
  obtain ⟨D, h1, _⟩ := h
  exact h1.lt
theorem Mp.mut (h : Mp w M ks) {S : Nat → Prop} (hm : Mut S w w') (hM : ¬ S M) : Mp w' M ks := by
  obtain ⟨D, h1, h2⟩ := h
  exact ⟨D, cmap_mut h1 hm hM, h2⟩
theorem Mp.below (h : Mp w M ks) (hb : Below w.heap.size w w') : Mp w' M ks := h.mut (Mut.ofBelow hb fun _ => False) id
theorem Mp.congr (h : Mp w M ks) (hl : ks.length = ks'.length) (hk : ∀ x, x ∈ ks ↔ x ∈ ks') : Mp w M ks' := by
  obtain ⟨D, h1, h2, h3⟩ := h
  exact ⟨D, by rw [← hl]; exact h1, by rw [← hl]; exact h2, fun s => ⟨(h3 s).1.trans ⟨fun ⟨i, hi⟩ => ⟨i, (hk _).1 hi⟩, fun ⟨i, hi⟩ => ⟨i, (hk _).2 hi⟩⟩, fun i hi => (h3 s).2 i ((hk _).2 hi)⟩⟩
theorem Mp.new (w : World) : Mp (w.alloc (.map #[] 0)) w.heap.size [] :=
  ⟨_, World.ownsMap_made w _ _ _, rfl, fun s => ⟨⟨fun h => by simp [Maps.has] at h, fun ⟨i, hi⟩ => by cases hi⟩, fun i hi => by cases hi⟩⟩
/-- A look-up of a key. -/
theorem Mp.look (h : Mp w M ks) (s : ByteArray) (hs : s.size ≤ maxLen) :
    ∃ (c : Int) (t : Bool), (Instr.lookup 50 (.map (some M)) (.string s) true).run Try.prog w = .ok (.tuple #[.int .i64 c, .bool t]) w ∧ ((t = true ∧ ∃ k : Nat, c = k ∧ (s, k) ∈ ks) ∨ (t = false ∧ ∀ k, (s, k) ∉ ks)) := by
  obtain ⟨D, hD, hz, hP⟩ := h
  obtain ⟨u, ps, hrun, hu⟩ := hD.look_ok (string_keyed Try.underlying9) Try.underlying50 (Try.zeroIc w) (plainElem_int Try.underlying3 (by decide)) (Go.WideMaps.keyOf_string_mk Try.underlying9 hs)
  obtain ⟨c, rfl, hc, hwc⟩ := plainElem_int_inv Try.underlying3 hu
  refine ⟨c, _, hrun, ?_⟩
  obtain ⟨h1, h2⟩ := hP s
  simp only [Prod.mk.injEq] at hc
  cases hh : Maps.has D (ky s) with
  | true =>
    left
    obtain ⟨k, hk⟩ := h1.1 hh
    have h4 := hc.1
    rw [show D.atKey (Lit.string s.data.toList) (DataW.lit (Lit.int IntKind.i64 0)) = DataW.lit (Lit.int .i64 (k : Int)) from h2 k hk _] at h4
    exact ⟨hh, k, by simpa using h4.symm, hk⟩
  | false =>
    right
    refine ⟨hh, fun k hk => ?_⟩
    rw [h1.2 ⟨k, hk⟩] at hh
    cases hh
theorem Mp.len (h : Mp w M ks) (ty : TypeId) : (Builtin.len_ #[50] ty #[.map (some M)]).run Try.prog w = .ok (.int .i64 (ks.length : Int)) w := by
  obtain ⟨D, hD, hz, _⟩ := h
  have := hD.len Try.underlying50 ty
  rwa [hz] at this
/-- A key that was not there is put. -/
theorem Mp.put (h : Mp w M ks) (s : ByteArray) (hs : s.size ≤ maxLen) (i : Nat) (hi : i ≤ 10000000) (hl : ks.length ≤ 10000000) (hn : ∀ k, (s, k) ∉ ks) :
    ∃ w', (Instr.mapUpdate 50 (.map (some M)) (.string s) (.int .i64 (i : Int))).run Try.prog w = .ok () w' ∧ Mp w' M ((s, i) :: ks) ∧ Mut (fun k => k = M) w w' := by
  obtain ⟨D, hD, hz, hP⟩ := h
  have hwf : (Lit.int .i64 (i : Int)).wf = true := WalkArith.wf_i64 (by omega)
  obtain ⟨w', h1, h2, h3⟩ := hD.store (string_keyed Try.underlying9) Try.underlying50 (by unfold maxLen; omega) (Go.WideMaps.keyOf_string_mk Try.underlying9 hs) (plainElem_int Try.underlying3 hwf)
  have hT := hD.tidy (string_keyed Try.underlying9)
  have hM := hD.isMap
  have k1 := ky_is hs
  have hno : ¬ Maps.has D (ky s) = true := fun e => by
    obtain ⟨k, hk⟩ := (hP s).1.1 e
    exact hn k hk
  have hsz : Maps.size (D.put (ky s) (.lit (.int .i64 (i : Int)))) = ks.length + 1 := by rw [size_put hT, if_neg hno, hz]
  refine ⟨w', h1, ⟨_, by have := cmap_fit h2; rw [show Maps.size (D.put (Lit.string s.data.toList) (.lit (.int .i64 (i : Int)))) = ks.length + 1 from hsz] at this; exact this, hsz, fun t => ?_⟩, cturned h3⟩
  show (Maps.has (D.put (ky s) _) (ky t) = true ↔ _) ∧ ∀ k, _ → ∀ z, (D.put (ky s) _).atKey (ky t) z = _
  by_cases e : t = s
  · subst e
    refine ⟨⟨fun _ => ⟨i, by simp⟩, fun _ => has_put_same hM k1 _⟩, fun k hk z => ?_⟩
    rw [atKey_put_same hM k1]
    rcases List.mem_cons.1 hk with h4 | h4
    · simp only [Prod.mk.injEq] at h4; rw [h4.2]
    · exact absurd h4 (hn k)
  · have n1 : ky t ≠ ky s := fun h => e (ky_inj h)
    rw [has_put_other n1]
    refine ⟨(hP t).1.trans ⟨fun ⟨k, hk⟩ => ⟨k, List.mem_cons_of_mem _ hk⟩, fun ⟨k, hk⟩ => ⟨k, ?_⟩⟩, fun k hk z => ?_⟩
    · rcases List.mem_cons.1 hk with h4 | h4
      · simp only [Prod.mk.injEq] at h4; exact absurd h4.1 e
      · exact h4
    · rw [atKey_put_other n1]
      refine (hP t).2 k ?_ z
      rcases List.mem_cons.1 hk with h4 | h4
      · simp only [Prod.mk.injEq] at h4; exact absurd h4.1 e
      · exact h4
/-- A key that was there is deleted. -/
theorem Mp.del (h : Mp w M ks) (s : ByteArray) (hs : s.size ≤ maxLen) (hin : ∃ k, (s, k) ∈ ks) (hl : ks'.length + 1 = ks.length) (hk : ∀ x, x ∈ ks' ↔ x ∈ ks ∧ x.1 ≠ s) (ty : TypeId) :
    ∃ w', (Builtin.delete_ #[50, 9] ty #[.map (some M), .string s]).run Try.prog w = .ok (.tuple #[]) w' ∧ Mp w' M ks' ∧ Mut (fun k => k = M) w w' := by
  obtain ⟨D, hD, hz, hP⟩ := h
  obtain ⟨w', h1, h2, h3⟩ := hD.drop (string_keyed Try.underlying9) Try.underlying50 (Go.WideMaps.keyOf_string_mk Try.underlying9 hs) ty
  have hT := hD.tidy (string_keyed Try.underlying9)
  have hhas : Maps.has D (ky s) = true := (hP s).1.2 hin
  have hsz : Maps.size (D.del (ky s)) = ks'.length := by
    have := size_del hT (k := ky s)
    rw [if_pos hhas, hz] at this
    omega
  refine ⟨w', h1, ⟨_, by have := cmap_fit h2; rw [show Maps.size (D.del (Lit.string s.data.toList)) = ks'.length from hsz] at this; exact this, hsz, fun t => ?_⟩, cturned h3⟩
  show (Maps.has (D.del (ky s)) (ky t) = true ↔ _) ∧ ∀ k, _ → ∀ z, (D.del (ky s)).atKey (ky t) z = _
  by_cases e : t = s
  · subst e
    rw [has_del_same]
    refine ⟨Iff.intro (fun h => absurd h (by decide)) (fun h => ?_), fun k hk' => absurd rfl ((hk _).1 hk').2⟩
    obtain ⟨k, hk'⟩ := h
    exact absurd rfl ((hk _).1 hk').2
  · have n1 : ky t ≠ ky s := fun h => e (ky_inj h)
    rw [has_del_other n1]
    refine ⟨(hP t).1.trans ⟨fun ⟨k, hk'⟩ => ⟨k, (hk _).2 ⟨hk', e⟩⟩, fun ⟨k, hk'⟩ => ⟨k, ((hk _).1 hk').1⟩⟩, fun k hk' z => ?_⟩
    rw [atKey_del_other n1]
    exact (hP t).2 k ((hk _).1 hk').1 z
end
end Go.Proofs.Ytbcanfelfdalbaa
