/-
  Walk of the law's example, and rows of the call's own beside a cache.
-/
import Derived.Test.YtbcanfelfdalbaaCaP
import Derived.Test.YtbcanfelfdalbaaLotG
import Derived.Deep.LoopGhost
namespace Go.Proofs.Ytbcanfelfdalbaa
open Go.RowKit
set_option linter.unusedVariables false
open Pr (it)
/-- A row of the call's own whose block is as it was. -/
theorem row_at {w w' : World} {base n size : Nat} {e : TypeId} {v : Value} {xs : List Value} (h : w.ownsRow base e size v n xs) (hk : ∀ k, v.ownBlock = some k → w'.heap[k]? = w.heap[k]?) : w'.ownsRow base e size v n xs := by
  refine ⟨h.1, ?_⟩
  rcases h.2 with hn | ⟨g, cap, cur, hv, hB, hg, rest⟩
  · exact .inl hn
  · exact .inr ⟨g, cap, cur, hv, hB, (hk g (by rw [hv]; rfl)).trans hg, rest⟩
theorem enc_small {z : Int} (h0 : 0 ≤ z) (h : z < 2048) : (Utf8.encode z).size ≤ 1000000 := by
  obtain ⟨n, rfl⟩ : ∃ n : Nat, z = n := ⟨z.toNat, by omega⟩
  by_cases h1 : n < 128
  · rw [Ca.enc_one h1]
    exact (by decide : 1 ≤ 1000000)
  · rw [Ca.enc_two (by omega) (by omega)]
    exact (by decide : 2 ≤ 1000000)
/-- The block of a row of the call's own. -/
theorem own_blk {w : World} {base k size n c off : Nat} {e : TypeId} {a : Option Addr} {b : Nat} {xs : List Value} (_ : w.ownsRow base e size (.slice a n c) k xs) (h : a = some ⟨b, off, none⟩) : (Value.slice a n c).ownBlock = some b := by
  rw [h]
  rfl
def kA : ByteArray := ⟨#[97]⟩
def kB : ByteArray := ⟨#[98]⟩
def kC : ByteArray := ⟨#[99]⟩
theorem cafix1 : Ca.put [] 2 (kA, [1]) = [(kA, [1])] := by decide
theorem cafix2 : Ca.put [(kA, [1])] 2 (kB, []) = [(kA, [1]), (kB, [])] := by decide
theorem cafix3 : Ca.young [(kA, [1]), (kB, [])] (kA, [1]) = [(kB, []), (kA, [1])] := by decide
theorem cafix4 : Ca.put [(kB, []), (kA, [1])] 2 (kC, []) = [(kA, [1]), (kC, [])] := by decide
theorem kAB : kA ≠ kB := by decide
set_option maxRecDepth 100000 in
set_option maxHeartbeats 3200000 in
theorem cafixed_calls (w : World) : Calls Try.prog 8 #[] w fun e w' => e = .returned (.bool true) ∧ Below w.heap.size w w' := by
  go_enter Try.func8, Try.ntmps8
  go_wp2_with fail
  refine (cnew_yes w w (Below.refl _ _) 2 (by omega)).mono ?_
  rintro e w1 ⟨⟨B, S, rfl, q1⟩, _⟩
  have c2 := (Below.refl w1.heap.size w1).alloc (Nat.le_refl _) (.cells #[.int .i64 1] 3)
  have Q2 := hid (q1.grow c2 (X' := fun _ => False) (fun k hk => hk.elim))
  have I2 := hid (Ir.block (xs := [1]) (n := 1) rfl (heap_alloc_new w1 (.cells #[.int .i64 1] 3)) (by decide))
  have HA2 := hid (show ∀ b off, 0 < 1 → (some ⟨w1.heap.size, 0, none⟩ : Option Addr) = some ⟨b, off, none⟩ → ¬ S b from fun b off _ e hs => by cases e; exact Nat.lt_irrefl _ (q1.lt _ hs))
  clear q1 c2
  go_wp2_with fail
  refine (capt_calls Q2.out kA (by decide) I2.out (by omega) HA2.out).mono ?_
  rintro e w3 ⟨rfl, S3, q3, _⟩
  rw [cafix1] at q3
  have Q3 := hid q3
  clear q3 Q2 I2
  go_wp2_with fail
  refine (capt_calls Q3.out kB (by decide) (Ir.none w3) (by omega) (fun _ _ h => absurd h (by omega))).mono ?_
  rintro e w4 ⟨rfl, S4, q4, _⟩
  rw [cafix2] at q4
  have Q4 := hid q4
  clear q4 Q3
  go_wp2_with fail
  refine (cget_calls Q4.out kA (by decide) (by omega)).mono ?_
  rintro e w5 (⟨xs, a, n, c, hm, rfl, o5, S5, q5, _⟩ | ⟨hn, _⟩)
  rotate_left
  · exact absurd rfl (hn (kA, [1]) (List.mem_cons_self ..))
  have hxs : xs = [1] := by
    rcases List.mem_cons.1 hm with e | e
    · exact (Prod.mk.inj e).2
    · rcases List.mem_cons.1 e with e2 | e2
      · exact absurd (Prod.mk.inj e2).1 kAB
      · cases e2
  subst hxs
  rw [cafix3] at q5
  have Q5 := hid q5
  have O5 := hid o5
  clear hm q5 o5 Q4
  go_wp2_with fail
  refine (capt_calls Q5.out kC (by decide) (Ir.none w5) (by omega) (fun _ _ h => absurd h (by omega))).mono ?_
  rintro e w6 ⟨rfl, S6, q6, k6⟩
  rw [cafix4] at q6
  have Q6 := hid q6
  have O6 := hid (row_at O5.out (fun k hk => k6 k (.inr hk)))
  clear q6 k6 Q5 O5
  go_wp2_with fail
  refine (ckeys_calls Q6.out).mono ?_
  rintro e w7 ⟨⟨a7, c7, rfl, t7⟩, b7⟩
  have B7 := hid (Q6.out.below.trans (b7.mono Q6.out.below.size))
  have I7 := hid (Ir.ofOwn' (own_below O6.out b7))
  have hn := I7.out.len
  obtain rfl : n = 1 := by simpa using hn.symm
  obtain ⟨b, off, rfl, _, hc⟩ := I7.out.at' (by omega)
  have p0 := hc 0 (by omega)
  obtain ⟨d, off2, rfl, _, hd⟩ := t7.at' (by simp)
  have r0 := hd 0 (by simp)
  have r1 := hd 1 (by simp)
  have e0 : it [1] 0 = 1 := rfl
  have e1 : at_ ([(kA, ([1] : Pr.Row)), (kC, [])].map fun x => x.1) 0 = kA := rfl
  have e2 : at_ ([(kA, ([1] : Pr.Row)), (kC, [])].map fun x => x.1) 1 = kC := rfl
  rw [e0] at p0
  rw [e1] at r0
  rw [e2] at r1
  rw [Nat.add_zero] at p0 r0
  unfold kA at r0
  unfold kC at r1
  clear hc hd hn t7 b7 I7 O6 Q6
  go_wp2_with fail
  go_ret
  exact ⟨rfl, B7.out⟩
/-- The same, by the row's own. -/
def SaysB (e : Ending) (b : Bool) : Prop := e = .returned (.bool b)
end Go.Proofs.Ytbcanfelfdalbaa
