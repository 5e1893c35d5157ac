/-
  The numbers of tokens by their bytes, as a map holds them. No program is named here.
-/
import Derived.Test.YtfgbpjajkmfkoaaVcMk
import Derived.Maps.Own
import Derived.Maps.OwnOps
import Derived.Maps.OwnSet
import Derived.Maps.Views
import Derived.StringKeys
namespace Go.Proofs.Ytfgbpjajkmfkoaa
open Go.RowKit Go.Maps

namespace Vc
/-- The last of the first j places with such bytes. -/
def lastOf (ts : Toks) : Nat → ByteArray → Option Nat
  | 0, _ => none
  | j + 1, s => if at_ ts j = s ∧ s.size ≠ 0 then some j else lastOf ts j s
theorem lastOf_some {ts : Toks} : ∀ {j : Nat} {s : ByteArray} {k : Nat}, lastOf ts j s = some k → k < j ∧ at_ ts k = s ∧ s.size ≠ 0
  | 0, s, k, h => by simp [lastOf] at h
  | j + 1, s, k, h => by
    unfold lastOf at h
    by_cases hc : at_ ts j = s ∧ s.size ≠ 0
    · rw [if_pos hc] at h
      obtain rfl := Option.some.inj h
      exact ⟨Nat.lt_succ_self _, hc⟩
    · rw [if_neg hc] at h
      have := lastOf_some h
      exact ⟨by omega, this.2⟩
theorem lastOf_has {ts : Toks} : ∀ {j i : Nat}, i < j → (at_ ts i).size ≠ 0 → ∃ k, lastOf ts j (at_ ts i) = some k ∧ i ≤ k
  | 0, i, h, _ => absurd h (Nat.not_lt_zero _)
  | j + 1, i, h, hz => by
    unfold lastOf
    by_cases hc : at_ ts j = at_ ts i ∧ (at_ ts i).size ≠ 0
    · exact ⟨j, by rw [if_pos hc], by omega⟩
    · rw [if_neg hc]
      have hij : i ≠ j := fun e => hc ⟨by rw [e], hz⟩
      exact lastOf_has (by omega) hz
abbrev key (s : ByteArray) : Lit := .string s.data.toList
theorem key_inj {s t : ByteArray} (h : key s = key t) : s = t := by
  have h1 : s.data.toList = t.data.toList := by simpa using h
  have h2 : s.data = t.data := Array.toList_inj.1 h1
  cases s; cases t; simpa using h2
/-- What a map says of the first j tokens. -/
def Nm (ts : Toks) (j : Nat) (D : DataW Unit) : Prop :=
  ∀ s : ByteArray, Maps.has D (key s) = (lastOf ts j s).isSome ∧ ∀ k, lastOf ts j s = some k → D.atKey (key s) (.lit (.int .i64 0)) = .lit (.int .i64 (k : Int))
theorem nm_nil (ts : Toks) : Nm ts 0 (.map []) := fun s => ⟨rfl, fun k h => by simp [lastOf] at h⟩
theorem nm_put {ts : Toks} {j : Nat} {D : DataW Unit} (h : Nm ts j D) (hD : IsMap D) (hz : (at_ ts j).size ≠ 0) : Nm ts (j + 1) (D.put (key (at_ ts j)) (.lit (.int .i64 (j : Int)))) := by
  intro s
  unfold lastOf
  by_cases hs : at_ ts j = s
  · subst hs
    rw [if_pos ⟨rfl, hz⟩]
    have hk0 : WideAt.IsKeyLit (key (at_ ts j)) := by first | trivial | simp [WideAt.IsKeyLit]
    exact ⟨has_put_same hD hk0 _, fun k hk => by obtain rfl := Option.some.inj hk; exact atKey_put_same hD hk0 _ _⟩
  · rw [if_neg (fun hc => hs hc.1)]
    have hne : key s ≠ key (at_ ts j) := fun e => hs (key_inj e).symm
    rw [has_put_other hne, atKey_put_other hne]
    exact h s
theorem nm_skip {ts : Toks} {j : Nat} {D : DataW Unit} (h : Nm ts j D) (hz : (at_ ts j).size = 0) : Nm ts (j + 1) D := by
  intro s
  unfold lastOf
  rw [if_neg (fun hc => hc.2 (by rw [← hc.1]; exact hz))]
  exact h s
end Vc
end Go.Proofs.Ytfgbpjajkmfkoaa
