/-
  Walks of vocab.mayName, isEmpty, Name, ID, of slices.Index at texts, of vocab.Of.
-/
import Derived.Test.YtfgbpjajkmfkoaaVcW1
import Derived.Deep.LoopGhost
namespace Go.Proofs.Ytfgbpjajkmfkoaa
open Go.RowKit
set_option linter.unusedVariables false

theorem ne_empty {s : ByteArray} {n : Nat} (h : s.size = n) (h0 : n ≠ 0) : s.toList.isEmpty = false ∧ ¬ s.toList = [] := ba_full (by omega)

set_option maxHeartbeats 1600000 in
theorem mayName_calls (s : ByteArray) (w : World) : Calls Try.prog 49 #[.string s] w fun e w' => Says e (Vc.NameOk s) ∧ w' = w := by
  obtain ⟨hsz, hget, hbd⟩ := St.any s
  obtain ⟨n, hn⟩ : ∃ n, s.size = n := ⟨_, rfl⟩
  obtain ⟨f, hf⟩ : ∃ f, bytesF s = f := ⟨_, rfl⟩
  have HK := hid (show Vc.NameOk s ↔ (1 ≤ n ∧ n ≤ 24 ∧ ∀ i, i < n → Vc.SignOk (f i)) by unfold Vc.NameOk; rw [hn, hf])
  rw [hf] at hget
  clear hbd hf hsz
  by_cases h0 : n = 0
  · have e1 := (ba_empty (hn.trans h0)).1
    have e2 := (ba_empty (hn.trans h0)).2
    have HN := hid (show ¬ Vc.NameOk s from fun h => by have := (HK.out.1 h).1; omega)
    clear h0
    go_enter Try.func49, Try.ntmps49
    go_wp2_with fail
    go_ret
    exact ⟨Says.no HN.out, rfl⟩
  have e1 := (ne_empty hn h0).1
  have e2 := (ne_empty hn h0).2
  by_cases h24 : (24 : Int) < n
  · have HN := hid (show ¬ Vc.NameOk s from fun h => by have := (HK.out.1 h).2.1; omega)
    go_enter Try.func49, Try.ntmps49
    go_wp2_with fail
    go_ret
    exact ⟨Says.no HN.out, rfl⟩
  have d24 : decide ((24 : Int) < n) = false := decide_eq_false h24
  go_enter Try.func49, Try.ntmps49
  go_wp2_with fail
  go_loopg [13] n (fun r iv wr => ∃ j : Nat, r = n - j ∧ j ≤ n ∧ iv = .int .i64 j ∧ Hid (∀ i, i < j → Vc.SignOk (f i)) ∧ w = wr)
  case atStart => exact ⟨0, rfl, by omega, rfl, hid (fun i hi => by omega), rfl⟩
  case round =>
    obtain ⟨j, rfl, hj, rfl, HA, rfl⟩ := hrel
    by_cases hlt : j < n
    · have l0 : (0 : Int) ≤ j := by omega
      have l1 : (j : Int) < n := by omega
      have l2 : IntKind.i64.wrap ((j : Int) + 1) = j + 1 := i64_in (by omega) (by omega)
      go_wp2_with fail
      refine (maySign_calls _ _).mono ?_
      rintro e w2 ⟨⟨t, rfl, ht⟩, rfl⟩
      have HT := hid ht
      clear ht
      cases t
      · have HN := hid (show ¬ Vc.NameOk s from fun h => by have := HT.out.2 ((HK.out.1 h).2.2 j hlt); simp at this)
        go_wp2_with fail
        go_ret
        exact ⟨Says.no HN.out, rfl⟩
      · have HY := hid (HT.out.1 rfl)
        go_wp2_with fail
        go_roundg (n - (j + 1))
        case measure => omega
        case rel => exact ⟨j + 1, rfl, by omega, by go_num, hid (fun i hi => by
          by_cases h : i < j
          · exact HA.out i h
          · obtain rfl : i = j := by omega
            exact HY.out), rfl⟩
    · have l1 : ¬ (j : Int) < n := by omega
      have HN := hid (show Vc.NameOk s from HK.out.2 ⟨by omega, by omega, fun i hi => HA.out i (by omega)⟩)
      go_wp2_with fail
      go_ret
      exact ⟨Says.yes HN.out, rfl⟩

set_option maxHeartbeats 800000 in
theorem isEmpty_calls {w : World} {a : Option Addr} {n c : Nat} {ts : Vc.Toks} (V : Ts w a n c ts) (k : Int) :
    Calls Try.prog 50 #[.slice a n c, .int .i64 k] w fun e w' => Says e (Vc.Emp ts k) ∧ w' = w := by
  have hl := V.len
  have T0 := hid V
  clear V
  by_cases h0 : 0 ≤ k
  · by_cases h1 : k < n
    · obtain ⟨j, rfl⟩ : ∃ j : Nat, k = j := ⟨k.toNat, by omega⟩
      have hj : j < n := by omega
      obtain ⟨b, off, rfl, hbl, hc⟩ := T0.out.at' (by omega)
      have q1 := hc j hj
      obtain ⟨t, ht⟩ : ∃ t, at_ ts j = t := ⟨_, rfl⟩
      rw [ht] at q1
      have HT := hid ht
      clear hc ht
      by_cases hz : t.size = 0
      · have e1 := (ba_empty hz).1
        have e2 := (ba_empty hz).2
        have HN := hid (show Vc.Emp ts j from ⟨by omega, by omega, by rw [Int.toNat_natCast, HT.out]; exact hz⟩)
        clear hz
        go_enter Try.func50, Try.ntmps50
        go_wp2_with fail
        go_ret
        exact ⟨Says.yes HN.out, rfl⟩
      · have e1 := (ba_full hz).1
        have e2 := (ba_full hz).2
        have HN := hid (show ¬ Vc.Emp ts j from fun h => hz (by have := h.2.2; rwa [Int.toNat_natCast, HT.out] at this))
        clear hz
        go_enter Try.func50, Try.ntmps50
        go_wp2_with fail
        go_ret
        exact ⟨Says.no HN.out, rfl⟩
    · have d1 : decide (k < (n : Int)) = false := decide_eq_false h1
      have HN := hid (show ¬ Vc.Emp ts k from fun h => by have := h.2.1; omega)
      go_enter Try.func50, Try.ntmps50
      go_wp2_with fail
      go_ret
      exact ⟨Says.no HN.out, rfl⟩
  · have d1 : decide ((0 : Int) ≤ k) = false := decide_eq_false h0
    have HN := hid (show ¬ Vc.Emp ts k from fun h => by have := h.1; omega)
    go_enter Try.func50, Try.ntmps50
    go_wp2_with fail
    go_ret
    exact ⟨Says.no HN.out, rfl⟩

/-- The first place with such bytes, as a number; -1. -/
def Vc.First (ts : Vc.Toks) (s : ByteArray) (r : Int) : Prop :=
  (∃ j : Nat, r = j ∧ j < ts.length ∧ at_ ts j = s ∧ ∀ i, i < j → at_ ts i ≠ s) ∨ (r = -1 ∧ ∀ i, i < ts.length → at_ ts i ≠ s)


/-- The number of a token: the least place; -1, if there is none, or the bytes are none. -/
def Vc.OfIs (ts : Vc.Toks) (s : ByteArray) (r : Int) : Prop := (s.size = 0 ∧ r = -1) ∨ (s.size ≠ 0 ∧ Vc.First ts s r)


/-- The name of the first special of such a number. -/
def NmOut (sp : Vc.Sps) (k : Int) (e : Ending) : Prop :=
  (∃ j, j < sp.length ∧ kat sp j = k ∧ (∀ i, i < j → kat sp i ≠ k) ∧ e = .returned (.tuple #[.string (tat sp j), .bool true])) ∨ ((∀ i, i < sp.length → kat sp i ≠ k) ∧ e = .returned (.tuple #[.string ⟨#[]⟩, .bool false]))


/-- The number of the first special of such a name. -/
def Vc.IdIs (sp : Vc.Sps) (s : ByteArray) (r : Int) : Prop :=
  (∃ j, j < sp.length ∧ tat sp j = s ∧ (∀ i, i < j → tat sp i ≠ s) ∧ r = kat sp j) ∨ ((∀ i, i < sp.length → tat sp i ≠ s) ∧ r = -1)

end Go.Proofs.Ytfgbpjajkmfkoaa
