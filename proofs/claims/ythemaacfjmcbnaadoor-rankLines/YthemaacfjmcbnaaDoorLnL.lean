/-
  The walk of line.Lines.
-/
import Derived.Test.YthemaacfjmcbnaaDoorLnT
import Derived.Test.YthemaacfjmcbnaaDoorLnA
namespace Go.Proofs.YthemaacfjmcbnaaDoor
open Go.RowKit Go.Shelf
set_option linter.unusedVariables false
attribute [local go_sem] Oper.semAt_some

theorem Tryd.infoS : (Tryd.prog.info? 9).map (fun i => (i.zero, i.size, i.bytes)) = some (some (.string ⟨#[]⟩), 1, 16) := by kernel_rfl
theorem pcs_len (c : UInt8) : ∀ (l acc : List UInt8), (Ln.pcs c acc l).length ≤ l.length + 1
  | [], acc => by simp [Ln.pcs]
  | b :: r, acc => by
    unfold Ln.pcs
    split
    · have := pcs_len c r []
      simp; omega
    · have := pcs_len c r (acc ++ [b])
      simp; omega
theorem ps_len (c : UInt8) (s : ByteArray) : (ps c s).length ≤ s.size + 1 := by
  have := pcs_len c (by_ s) []
  rw [by_length] at this
  simpa [ps] using this
/-- The lines of a text, as texts. -/
def lns (s : ByteArray) : List ByteArray := (Ln.lines (by_ s)).map mk

set_option maxRecDepth 100000 in
set_option maxHeartbeats 3200000 in
theorem lines_calls (a : Option Addr) (n c : Nat) (f : Nat → Int) (w : World) (hn : n ≤ 100000) (hS : Sl w a n c f) :
    Calls Tryd.prog 19 #[.slice a n c] w fun e w' => ∃ a' k cap, e = .returned (.slice a' k cap) ∧ Ts w' a' k cap (lns (str f n)) ∧ Below w.heap.size w w' := by
  obtain ⟨i0, hi, hz0, hz1, hz2⟩ := info_parts Tryd.infoS
  have HS := hid hS
  clear hS
  by_cases hn0 : n = 0
  · subst hn0
    have HL := hid (show lns (str f 0) = [] from rfl)
    go_enter Tryd.func19, Tryd.ntmps19
    go_wp2_with fail
    go_ret
    exact ⟨none, 0, 0, rfl, by rw [HL.out]; exact ⟨rfl, Nat.le_refl _, Nat.zero_le _, fun _ => ⟨rfl, rfl⟩, fun h => absurd h (by omega)⟩, Below.refl _ _⟩
  have hn1 : ¬ (n : Int) = 0 := by omega
  obtain ⟨X, hX⟩ : ∃ X, str f n = X := ⟨_, rfl⟩
  have hXs : X.size = n := by rw [← hX]; exact str_size f n
  obtain ⟨t, ht⟩ : ∃ t, mk (Ln.trim (by_ X)) = t := ⟨_, rfl⟩
  have hts : t.size ≤ n := by
    rw [← ht, mk_size, ← hXs, ← by_length]
    unfold Ln.trim
    split
    · simp
    · exact Nat.le_refl _
  have HL := hid (show lns (str f n) = ps 10 t by
    unfold lns ps Ln.lines
    rw [hX, if_neg (fun h => by have := by_length X; rw [h] at this; simp at this; omega), ← ht, by_mk])
  have HX := hid hX
  have HT := hid ht
  clear hX ht
  have hpl := ps_len 10 t
  refine (callsIn_wide (n := 8)).1 ?_
  refine callsIn_of_wp_marks Tryd.func19 rfl trivial ?_ rfl
  simp only [Tryd.ntmps19, List.size_toArray, List.length_cons, List.length_nil, Nat.reduceAdd, Nat.reduceSub, Array.replicate_succ, Array.replicate_zero, List.push_toArray, List.append_toArray, List.nil_append, List.cons_append]
  have cv := run_convert_sl (P := Tryd.prog) (w.alloc (.cells #[.slice none 0 0] 47)) 26 5 9 Tryd.underlying26 Tryd.underlying5 Tryd.underlying9 (HS.out.below ((Below.refl _ _).alloc (Nat.le_refl _) _))
  rw [HX.out] at cv
  gi_wp2_with fail
  refine ⟨trivial, ?_⟩
  refine (callsIn_wide.2 (trim_calls X (by omega) _)).mono ?_
  rintro e w' ⟨rfl, rfl⟩
  rw [HT.out]
  gi_wp2_with fail
  refine ⟨trivial, ?_⟩
  refine (parts_in _ t 10 _).mono ?_
  rintro e w' ⟨rfl, rfl⟩
  gi_wp2_with fail
  have bO := Boxed.new w 47 (.slice none 0 0)
  have bS := Boxed.new (w.alloc (.cells #[.slice none 0 0] 47)) 9 (.string t)
  have bC := Boxed.new ((w.alloc (.cells #[.slice none 0 0] 47)).alloc (.cells #[.string t] 9)) 5 (.int .u8 10)
  rw [World.size_alloc] at bS
  rw [World.size_alloc, World.size_alloc] at bC
  have hB0 : Below w.heap.size w (((w.alloc (.cells #[.slice none 0 0] 47)).alloc (.cells #[.string t] 9)).alloc (.cells #[.int .u8 10] 5)) := (((Below.refl _ w).alloc (Nat.le_refl _) _).alloc (by simp) _).alloc (by simp; omega) _
  refine wpIn_rangeFunc_ownG rfl (by omega) (gf := 39) (lb := #[.pointer (some ⟨w.heap.size + 1, 0, none⟩), .pointer (some ⟨w.heap.size + 1 + 1, 0, none⟩)]) rfl trivial (enters_of Tryd.func39 (by kernel_rfl) rfl)
    (parts_stops _ (by omega) (w.heap.size + 1) (w.heap.size + 1 + 1) t 10 10 rfl (by omega) _ (bS.alloc _) bC) kept_t (kept_b (by simp) (by simp)) (Below.refl _ _) (fun _ => rfl)
    (fun pre W => (∃ v, Boxed W w.heap.size 47 v ∧ W.ownsRow w.heap.size 9 1 v pre.length (tv pre) ∧ (∀ g, v.ownBlock = some g → w.heap.size + 3 ≤ g)) ∧ (Below w.heap.size w W ∧ w.heap.size + 3 ≤ W.heap.size))
    (fun _ _ _ => False)
    (OwnFrom.and (Own.from (holdsRow_own w.heap.size w.heap.size 47 9 1 (fun pre => pre.length) (fun pre => tv pre) (fun pre v => ∀ g, v.ownBlock = some g → w.heap.size + 3 ≤ g)) _) (OwnFrom.and (ownFrom_below (Nat.le_refl _) (by simp; omega)) (fun s X Y row h hg _ => Nat.le_trans h hg.size)))
    (fun _ _ _ _ _ hs _ _ => hs)
    ⟨⟨_, (bO.alloc _).alloc _, World.ownsRow_nil _ _ _ _, fun g hg => by simp [Value.ownBlock] at hg⟩, hB0, by simp⟩
    (fun x => { tmps := #[.slice a n c, undef, .slice none 0 0, .pointer (some ⟨w.heap.size, 0, none⟩), .string x, .slice a n c, .int .i64 n, .bool false, .slice a n c, .string X, .string t, .func (.func 39) #[] #[.pointer (some ⟨w.heap.size + 1, 0, none⟩), .pointer (some ⟨w.heap.size + 1 + 1, 0, none⟩)], .string x, undef, undef, undef, undef, undef], defers := [] }) ?assign ?body ?done ?stop
  case assign =>
    intro l x W K hK
    gi_wp2
    exact hK
  case body =>
    rintro l pre x W ⟨⟨v, hv, hrow, hg⟩, hB, hM⟩ hlt
    have hc := hv.cell
    gi_wp2_with (gi_at_builtin; refine wpListIn_append_src rfl _ _ 47 rfl w.heap.size 9 i0 (.string ⟨#[]⟩) 1 16 Tryd.underlying47 hi hz0 hz1 hz2 rfl (by decide) _ _ _ rfl (hrow.alloc _) (some ⟨W.heap.size, 0, none⟩) 1 1 [.string x] rfl (src_text x _) (by unfold maxLen; omega) (by omega) (by have := hB.size; simp; omega) ?_; intro v' w1 hown' hgrow hob; obtain ⟨g', cap', rfl⟩ := ownsRow_succ hown'; obtain ⟨hv1, hv2, hr2, hk2, hb2⟩ := hv.appended (by decide) hrow hB.size (Nat.le_refl _) hown' hgrow; have hc1 := hv1.cell; have hf1 := hv1.frozen)
    have hne : ∀ B, B < w.heap.size + 3 → v.ownBlock ≠ some B := fun B hB' e => by have := hg B e; omega
    exact ⟨hk2.from _, ⟨block_appended hgrow (by omega) (hne _ (by omega)) (by omega), block_appended hgrow (by omega) (hne _ (by omega)) (by omega)⟩, ⟨_, hv2, by simpa [tv] using hr2, block_new hg hM hob⟩, hB.trans hb2, Nat.le_trans hM (by have := hb2.size; omega)⟩
  case done =>
    rintro D ys W hD rfl ⟨⟨v, hv, hrow, hg⟩, hB, hM⟩ hK
    have hc := hv.cell
    gi_wp2
    refine ⟨by simp, .inl ⟨_, _, rfl, run_takeDeferred hK, ?_⟩⟩
    obtain ⟨a', cap, rfl, hT⟩ := Ts.ofOwn (ownsRow_putObj hrow (.deferred none) hK rfl)
    exact ⟨_, results_tmp rfl _ _ _, _, _, _, rfl, by rw [HL.out]; exact hT, hB.trans (belowK_b (w := w) (Nat.le_refl _) W D _ _ (by simp at hD; omega) hK rfl rfl)⟩
  case stop =>
    rintro D c pre W _ _ h _
    exact h.elim
end Go.Proofs.YthemaacfjmcbnaaDoor
