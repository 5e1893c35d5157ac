/-
  Walks of the reference's Lines and Words.
-/
import Derived.Test.YthemaacfjmcbnaaDoorLnW
import Derived.Deep.LoopGhost
import Derived.Deep.QuietTactic
import Derived.BigQuiet
import Derived.OwnWalk
import Derived.WalkSmall
namespace Go.Proofs.YthemaacfjmcbnaaDoor
open Go.RowKit
set_option linter.unusedVariables false

theorem last_of {s : ByteArray} {M : Nat} (hz : s.size = M + 1) : ∃ x : UInt8, (by_ s).getLast? = some x ∧ (x.toNat : Int) = bytesF s M := by
  obtain ⟨x, e, hx, hx2⟩ := by_get (s := s) (i := M) (by omega)
  exact ⟨x, by rw [List.getLast?_eq_getElem?, by_length, hz]; exact hx2, hx⟩
theorem ps_by {c : UInt8} {s : ByteArray} {pre : List ByteArray} {x : ByteArray} (h : ps c s = pre ++ [x]) : Ln.pcs c [] (by_ s) = pre.map by_ ++ [by_ x] := by
  have := congrArg (List.map by_) h
  simpa [ps, List.map_map, Function.comp_def, by_mk] using this
theorem map_mk_by (pre : List ByteArray) : (pre.map by_).map mk = pre := by simp [List.map_map, Function.comp_def, mk_by]
theorem lns_ends {s : ByteArray} {pre : List ByteArray} {x : ByteArray} {M : Nat} (h : ps 10 s = pre ++ [x]) (hz : s.size = M + 1) (hl : bytesF s M = 10) : pre = lns s := by
  obtain ⟨y, hy, hy2⟩ := last_of hz
  have : y = 10 := UInt8.toNat_inj.1 (by show y.toNat = 10; omega)
  subst this
  unfold lns
  rw [← Ln.lines_ends (ps_by h) hy, map_mk_by]
theorem lns_goes {s : ByteArray} {pre : List ByteArray} {x : ByteArray} {M : Nat} (h : ps 10 s = pre ++ [x]) (hz : s.size = M + 1) (hl : bytesF s M ≠ 10) : pre ++ [x] = lns s := by
  obtain ⟨y, hy, hy2⟩ := last_of hz
  unfold lns
  rw [← Ln.lines_goes (ps_by h) (fun e => by rw [e] at hy; simp at hy) (by rw [hy]; intro e; cases e; exact hl (by rw [← hy2]; rfl)), List.map_append, map_mk_by]
  simp [mk_by]
theorem lns_none {s : ByteArray} (hz : s.size = 0) : lns s = [] := by
  have : by_ s = [] := List.eq_nil_of_length_eq_zero (by rw [by_length, hz])
  unfold lns Ln.lines
  rw [if_pos this]; rfl

set_option maxRecDepth 100000 in
set_option maxHeartbeats 3200000 in
theorem rlines_calls (s : ByteArray) (w : World) (hsz : s.size ≤ 100000) :
    Calls Tryd.prog 21 #[.string s] w fun e w' => ∃ a k cap, e = .returned (.slice a k cap) ∧ Ts w' a k cap (lns s) ∧ Below w.heap.size w w' := by
  obtain ⟨i0, hi, hz0, hz1, hz2⟩ := info_parts Tryd.infoS
  have hpl := ps_len 10 s
  obtain ⟨hs1, hget, hbd⟩ := St.any s
  obtain ⟨N, hN⟩ : ∃ N, s.size = N := ⟨_, rfl⟩
  obtain ⟨f, hf⟩ : ∃ f, bytesF s = f := ⟨_, rfl⟩
  rw [hf] at hget hbd
  have HF := hid hf
  have HBD := hid hbd
  clear hf hbd hs1
  go_enter Tryd.func21, Tryd.ntmps21
  go_wp2_with fail
  go_loopg [3, 4, 5] N (fun r v lv iv wr => ∃ (pre : List ByteArray) (line : ByteArray) (fr i : Nat), r = N - i ∧ fr ≤ i ∧ i ≤ N ∧ iv = .int .i64 i ∧ lv = .string line ∧ Hid (line = s.extract fr i) ∧ line.size ≤ i ∧ Hid (ps 10 s = pre ++ rest 10 s fr i) ∧ Hid (wr.ownsRow w.heap.size 9 1 v pre.length (tv pre)) ∧ Hid (Below w.heap.size w wr))
  case atStart => exact ⟨[], ⟨#[]⟩, 0, 0, rfl, by omega, by omega, rfl, rfl, hid (ext_none s 0).symm, Nat.le_refl _, hid (by rw [rest_zero]; rfl), hid (World.ownsRow_lit w #[] 0 (Nat.le_refl _) (by decide) rfl), hid ((Below.refl _ _).alloc (Nat.le_refl _) _)⟩
  case round =>
    obtain ⟨pre, line, fr, i, rfl, hfi, hiN, rfl, rfl, HL, hls, HP, HO, HB⟩ := hrel
    have sz := HB.out.size
    by_cases hlt : i < N
    · have k0 : (0 : Int) ≤ i := by omega
      have k1 : (i : Int) < N := by omega
      have k2 : (i : Int) + 1 ≤ N := by omega
      have k3 : (i : Int) ≤ (i : Int) + 1 := by omega
      have e2 : IntKind.i64.wrap ((i : Int) + 1) = i + 1 := i64_in (by omega) (by omega)
      by_cases hc : f i = 10
      · have HE := hid (rest_hit (c := 10) (fr := fr) (show i < s.size by omega) (by rw [HF.out, hc]; rfl))
        have hl : pre.length < N + 1 := by have := congrArg List.length (HP.out.trans (by rw [HE.out])); simp at this; omega
        go_wp2_with (at_builtin; refine wpList_append_src rfl _ _ 47 rfl w.heap.size 9 i0 (.string ⟨#[]⟩) 1 16 Tryd.underlying47 hi hz0 hz1 hz2 rfl (by decide) u3 pre.length (tv pre) rfl (HO.out.alloc _) (some ⟨wr.heap.size, 0, none⟩) 1 1 [.string line] rfl (src_text line _) (by unfold maxLen; omega) (by omega) (by simp; omega) ?_)
        intro v4 w4 ho4 hg4 _
        have B4 := hid ((HB.out.alloc sz _).grown hg4 (by simp; omega) (fun j hj => (HO.out.lt j hj).1))
        have O4 := hid ho4
        clear ho4 hg4
        go_wp2_with fail
        go_roundg (N - (i + 1))
        case measure => omega
        case rel => exact ⟨pre ++ [line], ⟨#[]⟩, i + 1, i + 1, rfl, Nat.le_refl _, by omega, by go_num, rfl, hid (ext_none s _).symm, by simp [ByteArray.size], hid (by rw [HP.out, HE.out, HL.out]; simp), hid (by simpa [tv] using O4.out), B4⟩
      · have HE := hid (rest_miss (c := 10) (show i < s.size by omega) hfi (by rw [HF.out]; exact hc))
        obtain ⟨X, hX⟩ : ∃ X, s.extract i (i + 1) = X := ⟨_, rfl⟩
        have hXs : X.size = 1 := by rw [← hX, ByteArray.size_extract]; omega
        have hcat : ¬ 9223372036854775807 < line.size + X.size := by omega
        have HX := hid (show line ++ X = s.extract fr (i + 1) by rw [← hX, HL.out]; exact ext_step s (by omega) hfi)
        have hex : s.extract i (i + 1) = X := hX
        go_wp2_with fail
        go_roundg (N - (i + 1))
        case measure => omega
        case rel => exact ⟨pre, line ++ X, fr, i + 1, rfl, by omega, by omega, by go_num, rfl, HX, by rw [ByteArray.size_append]; omega, hid (by rw [HP.out, HE.out]), HO, HB⟩
    · obtain rfl : i = N := by omega
      have k1 : ¬ (i : Int) < i := by omega
      have HE := hid (show rest 10 s fr i = [line] by rw [HL.out, ← hN]; exact rest_done 10 s fr)
      have HPE := hid (HP.out.trans (by rw [HE.out]))
      clear HP HE
      cases i with
      | zero =>
        have hem := empty_yes (x := s) (by_inj (List.eq_nil_of_length_eq_zero (by rw [by_length, hN])))
        have he1 := hem.1
        have he2 := hem.2
        clear hem
        have hpre : pre = [] := by
          have h1 := congrArg List.length HPE.out
          have h2 : (ps 10 s).length ≤ 1 := by omega
          simp at h1
          exact List.eq_nil_of_length_eq_zero (by omega)
        subst hpre
        obtain ⟨a5, c5, rfl, ht5⟩ := Ts.ofOwn HO.out
        have HT5 := hid ht5
        clear ht5 HO
        go_wp2_with fail
        go_ret
        exact ⟨_, _, _, rfl, by rw [lns_none hN]; exact HT5.out, HB.out⟩
      | succ M =>
        have hne : s ≠ ⟨#[]⟩ := by rintro rfl; simp [ByteArray.size] at hN
        have he1 := (empty_no hne).1
        have he2 := (empty_no hne).2
        have hg0 : (0 : Int) ≤ M := by omega
        have hg1 : (M : Int) < (M : Int) + 1 := by omega
        have e1 : IntKind.i64.wrap ((M : Int) + 1 - 1) = M := by rw [i64_in (by omega) (by omega)]; omega
        by_cases hc : f M = 10
        · have HR := hid (lns_ends HPE.out hN (by rw [HF.out]; exact hc))
          obtain ⟨a5, c5, rfl, ht5⟩ := Ts.ofOwn HO.out
          have HT5 := hid ht5
          clear ht5 HO
          go_wp2_with fail
          go_ret
          exact ⟨_, _, _, rfl, by rw [← HR.out]; exact HT5.out, HB.out⟩
        · have HR := hid (lns_goes HPE.out hN (by rw [HF.out]; exact hc))
          have hl : pre.length < M + 1 + 1 := by have := congrArg List.length HPE.out; simp at this; omega
          go_wp2_with (at_builtin; refine wpList_append_src rfl _ _ 47 rfl w.heap.size 9 i0 (.string ⟨#[]⟩) 1 16 Tryd.underlying47 hi hz0 hz1 hz2 rfl (by decide) u3 pre.length (tv pre) rfl (HO.out.alloc _) (some ⟨wr.heap.size, 0, none⟩) 1 1 [.string line] rfl (src_text line _) (by unfold maxLen; omega) (by omega) (by simp; omega) ?_)
          intro v4 w4 ho4 hg4 _
          have B4 := hid ((HB.out.alloc sz _).grown hg4 (by simp; omega) (fun j hj => (HO.out.lt j hj).1))
          obtain ⟨a5, c5, rfl, ht5⟩ := Ts.ofOwn (xs := pre ++ [line]) (by simpa [tv] using ho4)
          have HT5 := hid ht5
          clear ht5 HO ho4 hg4
          go_wp2_with fail
          go_ret
          exact ⟨_, _, _, rfl, by rw [← HR.out]; exact HT5.out, B4.out⟩

/-- The words of a line, as texts. -/
def wds (s : ByteArray) : List ByteArray := (Ln.words (by_ s)).map mk
theorem wds_good {s : ByteArray} (h : ∀ x ∈ ps 32 s, x ≠ ⟨#[]⟩) : wds s = ps 32 s := by unfold wds ps; rw [show Ln.words (by_ s) = _ from wgood h]
theorem wds_bad {s : ByteArray} {pre r : List ByteArray} (h : ps 32 s = pre ++ ⟨#[]⟩ :: r) : wds s = [] := by
  unfold wds
  rw [wbad (q := pre) ⟨r, by rw [h]; simp⟩]; rfl

set_option maxRecDepth 100000 in
set_option maxHeartbeats 3200000 in
theorem rwords_calls (s : ByteArray) (w : World) (hsz : s.size ≤ 100000) :
    Calls Tryd.prog 22 #[.string s] w fun e w' => ∃ a k cap, e = .returned (.slice a k cap) ∧ Ts w' a k cap (wds s) ∧ Below w.heap.size w w' := by
  obtain ⟨i0, hi, hz0, hz1, hz2⟩ := info_parts Tryd.infoS
  have hpl := ps_len 32 s
  obtain ⟨hs1, hget, hbd⟩ := St.any s
  obtain ⟨N, hN⟩ : ∃ N, s.size = N := ⟨_, rfl⟩
  obtain ⟨f, hf⟩ : ∃ f, bytesF s = f := ⟨_, rfl⟩
  rw [hf] at hget hbd
  have HF := hid hf
  have HBD := hid hbd
  clear hf hbd hs1
  go_enter Tryd.func22, Tryd.ntmps22
  go_wp2_with fail
  go_loopg [3, 4, 5] (N + 1) (fun r v lv iv wr => ∃ (pre : List ByteArray) (line : ByteArray) (fr i : Nat), r = N + 1 - i ∧ i ≤ N + 1 ∧ iv = .int .i64 i ∧ lv = .string line ∧ line.size ≤ i ∧ Hid ((fr ≤ i ∧ i ≤ N ∧ line = s.extract fr i ∧ ps 32 s = pre ++ rest 32 s fr i) ∨ (i = N + 1 ∧ ps 32 s = pre)) ∧ Hid (∀ x ∈ pre, x ≠ ⟨#[]⟩) ∧ Hid (wr.ownsRow w.heap.size 9 1 v pre.length (tv pre)) ∧ Hid (Below w.heap.size w wr))
  case atStart => exact ⟨[], ⟨#[]⟩, 0, 0, rfl, by omega, rfl, rfl, Nat.le_refl _, hid (.inl ⟨by omega, by omega, (ext_none s 0).symm, by rw [rest_zero]; rfl⟩), hid (fun x hx => by simp at hx), hid (World.ownsRow_lit w #[] 0 (Nat.le_refl _) (by decide) rfl), hid ((Below.refl _ _).alloc (Nat.le_refl _) _)⟩
  case round =>
    obtain ⟨pre, line, fr, i, rfl, hiN, rfl, rfl, hls, HP, HNE, HO, HB⟩ := hrel
    have sz := HB.out.size
    by_cases hend : i = N + 1
    · have HPE : Hid (ps 32 s = pre) := by
        rcases HP.out with h | h
        · omega
        · exact h.2
      subst hend
      have k1 : ¬ ((N : Int) + 1 ≤ N) := by omega
      have HR := hid (wds_good (s := s) (by rw [HPE.out]; exact HNE.out))
      obtain ⟨a5, c5, rfl, ht5⟩ := Ts.ofOwn HO.out
      have HT5 := hid ht5
      clear ht5 HO HP
      go_wp2_with fail
      go_ret
      exact ⟨_, _, _, rfl, by rw [HR.out, HPE.out]; exact HT5.out, HB.out⟩
    have HQ := hid (show fr ≤ i ∧ i ≤ N ∧ line = s.extract fr i ∧ ps 32 s = pre ++ rest 32 s fr i by
      rcases HP.out with h | h
      · exact h
      · omega)
    have hfi := HQ.out.1
    clear HP
    have k1 : (i : Int) ≤ N := by omega
    have e2 : IntKind.i64.wrap ((i : Int) + 1) = i + 1 := i64_in (by omega) (by omega)
    have k0 : (0 : Int) ≤ i := by omega
    have key : ∀ r, ps 32 s = pre ++ line :: r → (i = N ∨ (i < N ∧ f i = 32)) → True := fun _ _ _ => trivial
    by_cases hlt : i < N ∧ f i ≠ 32
    · obtain ⟨hlt, hc⟩ := hlt
      have k2 : (i : Int) < N := by omega
      have k3 : (i : Int) + 1 ≤ N := by omega
      have k4 : (i : Int) ≤ (i : Int) + 1 := by omega
      have HE := hid (rest_miss (c := 32) (show i < s.size by omega) hfi (by rw [HF.out]; exact hc))
      obtain ⟨X, hX⟩ : ∃ X, s.extract i (i + 1) = X := ⟨_, rfl⟩
      have hXs : X.size = 1 := by rw [← hX, ByteArray.size_extract]; omega
      have hcat : ¬ 9223372036854775807 < line.size + X.size := by omega
      have HX := hid (show line ++ X = s.extract fr (i + 1) by rw [← hX, HQ.out.2.2.1]; exact ext_step s (by omega) hfi)
      clear key
      go_wp2_with fail
      go_roundg (N + 1 - (i + 1))
      case measure => omega
      case rel => exact ⟨pre, line ++ X, fr, i + 1, rfl, by omega, by go_num, rfl, by rw [ByteArray.size_append]; omega, hid (.inl ⟨by omega, by omega, HX.out, by rw [HQ.out.2.2.2, HE.out]⟩), HNE, HO, HB⟩
    · clear key
      have HE : Hid (∃ r, ps 32 s = pre ++ line :: r ∧ ((i = N ∧ r = []) ∨ (i < N ∧ f i = 32 ∧ r = rest 32 s (i + 1) (i + 1)))) := by
        by_cases h1 : i < N
        · have h2 : f i = 32 := by
            by_cases h3 : f i = 32
            · exact h3
            · exact absurd ⟨h1, h3⟩ hlt
          exact ⟨_, by rw [HQ.out.2.2.2, rest_hit (c := 32) (fr := fr) (show i < s.size by omega) (by rw [HF.out, h2]; rfl), HQ.out.2.2.1], .inr ⟨h1, h2, rfl⟩⟩
        · obtain rfl : i = N := by omega
          exact ⟨[], by rw [HQ.out.2.2.2, HQ.out.2.2.1, ← hN, rest_done], .inl ⟨rfl, rfl⟩⟩
      obtain ⟨r, HR⟩ : ∃ r, Hid (ps 32 s = pre ++ line :: r ∧ ((i = N ∧ r = []) ∨ (i < N ∧ f i = 32 ∧ r = rest 32 s (i + 1) (i + 1)))) := HE.out
      clear HE hlt
      have hguard : (i = N) ∨ (i < N ∧ f i = 32) := by
        rcases HR.out.2 with h | h
        · exact .inl h.1
        · exact .inr ⟨h.1, h.2.1⟩
      have hl : pre.length < N + 1 := by have := congrArg List.length HR.out.1; simp at this; omega
      by_cases hle : line = ⟨#[]⟩
      · have he1 := (empty_yes hle).1
        have he2 := (empty_yes hle).2
        have HW := hid (wds_bad (s := s) (pre := pre) (r := r) (by rw [HR.out.1, hle]))
        clear hle
        rcases hguard with rfl | ⟨h1, h2⟩
        · have k5 : ¬ (i : Int) < i := by omega
          go_wp2_with fail
          go_ret
          exact ⟨_, _, _, rfl, by rw [HW.out]; exact ⟨rfl, Nat.le_refl _, Nat.zero_le _, fun _ => ⟨rfl, rfl⟩, fun h => absurd h (by omega)⟩, HB.out.alloc sz _⟩
        · have k5 : (i : Int) < N := by omega
          go_wp2_with fail
          go_ret
          exact ⟨_, _, _, rfl, by rw [HW.out]; exact ⟨rfl, Nat.le_refl _, Nat.zero_le _, fun _ => ⟨rfl, rfl⟩, fun h => absurd h (by omega)⟩, HB.out.alloc sz _⟩
      · have he1 := (empty_no hle).1
        have he2 := (empty_no hle).2
        have HLE := hid hle
        clear hle
        have HN2 := hid (show ∀ x ∈ pre ++ [line], x ≠ ⟨#[]⟩ by
          intro x hx
          rcases List.mem_append.1 hx with h | h
          · exact HNE.out x h
          · simp at h; subst h; exact HLE.out)
        rcases hguard with rfl | ⟨h1, h2⟩
        · have k5 : ¬ (i : Int) < i := by omega
          go_wp2_with (at_builtin; refine wpList_append_src rfl _ _ 47 rfl w.heap.size 9 i0 (.string ⟨#[]⟩) 1 16 Tryd.underlying47 hi hz0 hz1 hz2 rfl (by decide) u3 pre.length (tv pre) rfl (HO.out.alloc _) (some ⟨wr.heap.size, 0, none⟩) 1 1 [.string line] rfl (src_text line _) (by unfold maxLen; omega) (by omega) (by simp; omega) ?_)
          intro v4 w4 ho4 hg4 _
          have B4 := hid ((HB.out.alloc sz _).grown hg4 (by simp; omega) (fun j hj => (HO.out.lt j hj).1))
          have O4 := hid ho4
          clear ho4 hg4
          go_wp2_with fail
          go_roundg (i + 1 - (i + 1))
          case measure => omega
          case rel => exact ⟨pre ++ [line], ⟨#[]⟩, i + 1, i + 1, rfl, by omega, by go_num, rfl, by simp [ByteArray.size], hid (.inr ⟨rfl, by rw [HR.out.1]; rcases HR.out.2 with h | h; rw [h.2]; omega⟩), HN2, hid (by simpa [tv] using O4.out), B4⟩
        · have k5 : (i : Int) < N := by omega
          go_wp2_with (at_builtin; refine wpList_append_src rfl _ _ 47 rfl w.heap.size 9 i0 (.string ⟨#[]⟩) 1 16 Tryd.underlying47 hi hz0 hz1 hz2 rfl (by decide) u3 pre.length (tv pre) rfl (HO.out.alloc _) (some ⟨wr.heap.size, 0, none⟩) 1 1 [.string line] rfl (src_text line _) (by unfold maxLen; omega) (by omega) (by simp; omega) ?_)
          intro v4 w4 ho4 hg4 _
          have B4 := hid ((HB.out.alloc sz _).grown hg4 (by simp; omega) (fun j hj => (HO.out.lt j hj).1))
          have O4 := hid ho4
          clear ho4 hg4
          go_wp2_with fail
          go_roundg (N + 1 - (i + 1))
          case measure => omega
          case rel => exact ⟨pre ++ [line], ⟨#[]⟩, i + 1, i + 1, rfl, by omega, by go_num, rfl, by simp [ByteArray.size], hid (.inl ⟨Nat.le_refl _, by omega, (ext_none s _).symm, by rw [HR.out.1]; rcases HR.out.2 with h | h; omega; rw [h.2.2]; simp⟩), HN2, hid (by simpa [tv] using O4.out), B4⟩
end Go.Proofs.YthemaacfjmcbnaaDoor
