/-
  Walks of slices.Clone at specials, of cmp.Compare at texts, of the function by which specials are sorted; the contract of slices.SortFunc at specials and at merges.
-/
import Derived.Test.YtjpboackbjfenaaVcSp
import Derived.Test.YtjpboackbjfenaaVcW10
import Derived.Test.YtjpboackbjfenaaSort
namespace Go.Proofs.Ytjpboackbjfenaa
open Go.RowKit Go.Sort
set_option linter.unusedVariables false


set_option maxRecDepth 100000 in
set_option maxHeartbeats 1600000 in
theorem clone_calls {w : World} {a : Option Addr} {n c : Nat} {sp : Vc.Sps} (V : Rw w a n c sp) (hn : n ≤ 1000000) :
    Calls Try.prog 55 #[.slice a n c] w fun e w' => (∃ v, e = .returned v ∧ w'.ownsRow w.heap.size 49 2 v n (rv sp)) ∧ Below w.heap.size w w' := by
  obtain ⟨i0, hi, hz0, hz1, hz2⟩ := info_parts Try.infoSp
  cases a with
  | none =>
    obtain ⟨rfl, rfl⟩ := V.nil rfl
    have hs : sp = [] := List.eq_nil_of_length_eq_zero V.len
    subst hs
    clear V
    have q := fun w => Lib.run_eql_slice_nil (P := Try.prog) w _ _ none 0 0 0 0 Try.underlying24
    go_enter Try.func55, Try.ntmps55
    go_wp2_with fail
    go_ret
    exact ⟨⟨_, rfl, by simp [rv], .inl ⟨rfl, rfl⟩⟩, Below.refl _ _⟩
  | some x =>
    have S0 := hid (V.below ((Below.refl w.heap.size w).alloc (Nat.le_refl _) (.cells #[] 49))).src
    clear V
    have q := fun w => Lib.run_eql_slice_nil (P := Try.prog) w _ _ (some x) n c 0 0 Try.underlying24
    go_enter Try.func55, Try.ntmps55
    go_wp2_with (at_builtin; refine wpList_append_src rfl _ _ 24 rfl w.heap.size 49 i0 (.agg #[.string ⟨#[]⟩, .int .i64 0]) 2 24 Try.underlying24 hi hz0 hz1 hz2 rfl (by decide) _ _ _ rfl (World.ownsRow_made w #[] 0 (Nat.le_refl _) (Nat.zero_le _) (by simp)) (some x) n c (rv sp) rfl S0.out (by unfold maxLen; omega) (by omega) (by simp) ?_; intro v' w1 own gr loc; have OW := hid own; have GR := hid gr; clear own gr loc)
    go_ret
    refine ⟨⟨v', rfl, by simpa using OW.out⟩, ((Below.refl _ w).alloc (Nat.le_refl _) _).grown GR.out (by simp) (by rintro k ⟨⟩; exact Nat.le_refl _)⟩

/-- How texts are compared. -/
def Vc.cmpT (s t : ByteArray) : Int := if Op.bytesLess s.toList t.toList then -1 else if Op.bytesLess t.toList s.toList then 1 else 0
theorem cmpT_lt (s t : ByteArray) : Vc.cmpT s t < 0 ↔ Vc.NLt s t := by
  unfold Vc.cmpT
  rw [← bl_iff]
  by_cases h : Op.bytesLess s.toList t.toList = true
  · simp [h]
  · by_cases k : Op.bytesLess t.toList s.toList = true <;> simp [h, k]

theorem isNaNS_calls (s : ByteArray) (w : World) : Calls Try.prog 67 #[.string s] w fun e w' => e = .returned (.bool false) ∧ w' = w := by
  go_enter Try.func67, Try.ntmps67
  go_wp2_with fail
  go_ret
  simp

set_option maxHeartbeats 800000 in
theorem cmpStr_calls (s t : ByteArray) (w : World) : Calls Try.prog 58 #[.string s, .string t] w fun e w' => e = .returned (.int .i64 (Vc.cmpT s t)) ∧ w' = w := by
  by_cases h1 : Op.bytesLess s.toList t.toList = true
  · have HE := hid (show Vc.cmpT s t = -1 by unfold Vc.cmpT; rw [if_pos h1])
    go_enter Try.func58, Try.ntmps58
    go_wp2_with (go_at_call 67; refine (isNaNS_calls _ _).mono ?_; rintro e w2 ⟨rfl, rfl⟩)
    go_ret
    exact ⟨by rw [HE.out]; rfl, rfl⟩
  · have h1' : Op.bytesLess s.toList t.toList = false := by simpa using h1
    by_cases h2 : Op.bytesLess t.toList s.toList = true
    · have HE := hid (show Vc.cmpT s t = 1 by unfold Vc.cmpT; rw [if_neg h1, if_pos h2])
      have hne : ¬ s.toList = t.toList := fun e => by rw [e] at h2; exact h1 (by rw [e]; exact h2)
      have hne2 : (s.toList == t.toList) = false := beq_eq_false_iff_ne.mpr hne
      clear h1
      go_enter Try.func58, Try.ntmps58
      go_wp2_with (go_at_call 67; refine (isNaNS_calls _ _).mono ?_; rintro e w2 ⟨rfl, rfl⟩)
      go_ret
      exact ⟨by rw [HE.out]; rfl, rfl⟩
    · have HE := hid (show Vc.cmpT s t = 0 by unfold Vc.cmpT; rw [if_neg h1, if_neg h2])
      have he : s = t := Vc.nlt_total (fun h => h1 ((bl_iff s t).2 h)) (fun h => h2 ((bl_iff t s).2 h))
      subst he
      clear h1 h2
      go_enter Try.func58, Try.ntmps58
      go_wp2_with (go_at_call 67; refine (isNaNS_calls _ _).mono ?_; rintro e w2 ⟨rfl, rfl⟩)
      go_ret
      exact ⟨by rw [HE.out]; rfl, rfl⟩

set_option maxHeartbeats 800000 in
theorem byName_calls (s1 s2 : ByteArray) (k1 k2 : Int) (w : World) :
    Calls Try.prog 57 #[.agg #[.string s1, .int .i64 k1], .agg #[.string s2, .int .i64 k2]] w fun e w' => e = .returned (.int .i64 (Vc.cmpT s1 s2)) ∧ (Below w.heap.size w w' ∧ w.drawn ≤ w'.drawn) := by
  have B0 := hid (((Below.refl w.heap.size w).alloc (Nat.le_refl _) (.cells #[.string s1, .int .i64 k1] 49)).alloc (by simp) (.cells #[.string s2, .int .i64 k2] 49))
  have HD := hid (show w.drawn ≤ ((w.alloc (.cells #[.string s1, .int .i64 k1] 49)).alloc (.cells #[.string s2, .int .i64 k2] 49)).drawn from Nat.le_refl _)
  go_enter Try.func57, Try.ntmps57
  go_wp2_with fail
  refine (cmpStr_calls s1 s2 _).mono ?_
  rintro e w2 ⟨rfl, rfl⟩
  go_wp2_with fail
  go_ret
  exact ⟨rfl, B0.out, HD.out⟩

/-! ### Sorting -/
def encS (x : ByteArray × Int) : List Value := [.string x.1, .int .i64 x.2]
def encM (x : Mg4) : List Value := [.int .i64 x.1, .int .i64 x.2.1, .int .i64 x.2.2.1, .int .i64 x.2.2.2]
theorem cmpLaysS (blk off size : Nat) (w : World) : CmpLays Try.prog 57 #[] encS 2 (fun x y => Vc.cmpT x.1 y.1) blk off size w :=
  fun _ _ _ _ x y => (byName_calls x.1 y.1 x.2 y.2 _).mono fun e w' ⟨h1, h2, h3⟩ => ⟨h1, grow_of h2 h3⟩
theorem cmpLaysM (blk off size : Nat) (w : World) : CmpLays Try.prog 42 #[] encM 4 (fun x y => Vc.cmp x y) blk off size w :=
  fun _ _ _ _ x y => (compare_calls x.1 x.2.1 x.2.2.1 x.2.2.2 y.1 y.2.1 y.2.2.1 y.2.2.2 _).mono fun e w' ⟨h1, h2, h3⟩ => ⟨h1, grow_of h2 h3⟩
theorem ltS (x y : ByteArray × Int) : ltOf (fun x y : ByteArray × Int => Vc.cmpT x.1 y.1) x y = true ↔ Vc.NLt x.1 y.1 := by
  unfold ltOf
  rw [decide_eq_true_eq, cmpT_lt]
theorem ltS_no (x y : ByteArray × Int) : ltOf (fun x y : ByteArray × Int => Vc.cmpT x.1 y.1) x y = false ↔ ¬ Vc.NLt x.1 y.1 := by
  rw [← ltS]; simp
theorem ltM (x y : Mg4) : ltOf (fun x y : Mg4 => Vc.cmp x y) x y = true ↔ Vc.Ahead x y := by
  unfold ltOf
  rw [decide_eq_true_eq, Vc.cmp_lt]
theorem ltM_no (x y : Mg4) : ltOf (fun x y : Mg4 => Vc.cmp x y) x y = false ↔ ¬ Vc.Ahead x y := by
  rw [← ltM]; simp
theorem nlt_ntrans {a b c : ByteArray} (h : ¬ Vc.NLt a b) (k : ¬ Vc.NLt b c) : ¬ Vc.NLt a c := by
  intro hac
  by_cases hba : Vc.NLt b a
  · exact k (nlt_trans hba hac)
  · obtain rfl := Vc.nlt_total h hba
    exact k hac
theorem swoS : SWO (ltOf fun x y : ByteArray × Int => Vc.cmpT x.1 y.1) where
  irrefl x := (ltS_no x x).2 (Vc.nlt_irrefl _)
  trans x y z h1 h2 := (ltS x z).2 (nlt_trans ((ltS x y).1 h1) ((ltS y z).1 h2))
  ntrans x y z h1 h2 := (ltS_no x z).2 (nlt_ntrans ((ltS_no x y).1 h1) ((ltS_no y z).1 h2))
theorem ahead_ntrans {a b c : Mg4} (h : ¬ Vc.Ahead a b) (k : ¬ Vc.Ahead b c) : ¬ Vc.Ahead a c := by unfold Vc.Ahead at *; omega
theorem swoM : SWO (ltOf fun x y : Mg4 => Vc.cmp x y) where
  irrefl x := (ltM_no x x).2 (Vc.Ahead.irrefl _)
  trans x y z h1 h2 := (ltM x z).2 (((ltM x y).1 h1).trans ((ltM y z).1 h2))
  ntrans x y z h1 h2 := (ltM_no x z).2 (ahead_ntrans ((ltM_no x y).1 h1) ((ltM_no y z).1 h2))

theorem below_sortK {α : Type} [Inhabited α] {enc : α → List Value} {k : Nat} {w : World} {base g m : Nat} {d : Array α} {os : Array Obj} (hb : base ≤ w.heap.size) (hg : base ≤ g) : Below base w (sortWorldK enc k w g 0 m d os) := by
  unfold sortWorldK putRowK putRow
  refine ⟨rfl, rfl, rfl, ?_, ?_⟩
  · simp [Sort.grow, mapBlock, Sort.ahead] <;> omega
  · intro i hi
    show ((mapBlock (Sort.ahead w m) g _).heap ++ os)[i]? = w.heap[i]?
    rw [Array.getElem?_append_left (by simp [mapBlock, Sort.ahead]; omega)]
    simp only [mapBlock, Sort.ahead]
    rw [Array.getElem?_modify, if_neg (by omega)]
theorem flat_get {α : Type} [Inhabited α] (enc : α → List Value) (k : Nat) (hk : ∀ x, (enc x).length = k) (xs : List α) (t : Nat) (ht : t < xs.length * k) : (xs.flatMap enc)[t]? = some (flatK enc k xs.toArray)[t]! := by
  rw [get_flatK _ _ _ _ (by simpa using ht)]
  induction xs generalizing t with
  | nil => simp at ht
  | cons x xs ih =>
    have k0 : 0 < k := by rcases Nat.eq_zero_or_pos k with h | h; · subst h; simp at ht
                          · exact h
    rw [List.flatMap_cons]
    by_cases h : t < k
    · rw [List.getElem?_append_left (by rw [hk]; exact h)]
      have e1 : t / k = 0 := Nat.div_eq_of_lt h
      have e2 : t % k = t := Nat.mod_eq_of_lt h
      rw [e1, e2]
      have hl : t < (enc x).length := by rw [hk]; exact h
      simp [hl]
    · rw [List.getElem?_append_right (by rw [hk]; omega), hk]
      have ht' : t - k < xs.length * k := by
        rw [List.length_cons, Nat.add_mul, Nat.one_mul] at ht; omega
      rw [ih (t - k) ht']
      obtain ⟨u, rfl⟩ : ∃ u, t = u + k := ⟨t - k, by omega⟩
      rw [Nat.add_sub_cancel, Nat.add_div_right _ k0, Nat.add_mod_right]
      simp
theorem holdsK_own {α : Type} [Inhabited α] {enc : α → List Value} {k : Nat} (hk : ∀ x, (enc x).length = k) {w : World} {base g n cap : Nat} {e : TypeId} {xs : List α} (hl : xs.length = n) (h : w.ownsRow base e k (.slice (some ⟨g, 0, none⟩) n cap) n (xs.flatMap enc)) : HoldsK enc k w g 0 xs.toArray ∧ base ≤ g ∧ g < w.heap.size := by
  obtain ⟨hlen, h⟩ := h
  rcases h with ⟨h1, _⟩ | ⟨g2, cap2, cur, h1, hb, hg, hn, hm, hs, ht⟩
  · cases h1
  · cases h1
    refine ⟨fun t h => ?_, hb, (Array.getElem?_eq_some_iff.1 hg).1⟩
    rw [size_flatK, List.size_toArray] at h
    have e1 := flat_get enc k hk xs t h
    rw [← ht, List.getElem?_take_of_lt (by rw [hl] at h; exact h)] at e1
    have e2 : cur[t]? = some (flatK enc k xs.toArray)[t]! := by simpa using e1
    constructor
    · simp [World.cell?, hg, e2]
    · simp [World.frozen?, hg]
end Go.Proofs.Ytjpboackbjfenaa
