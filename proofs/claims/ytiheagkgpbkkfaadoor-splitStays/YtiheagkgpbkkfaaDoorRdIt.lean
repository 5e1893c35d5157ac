/-
  A loop over a function of one's own that makes what it hands out: a round is told what the handed things are, in the world in which they are handed out; no round leaves the loop. No program is named here.
-/
import Derived.RangeFuncNested
import Derived.RangeFuncBound
import Derived.RangeFuncCalls
import Derived.RangeFuncLeaves
import Derived.RangeFuncBox
import Derived.Shelf.Abstract
import Derived.Shelf.RegionOpen
import Derived.WalkKit
import Derived.OwnWalkIn
import Derived.TacticsInMore
import Derived.LoopNIn
import Derived.LoopIn
namespace Go.Proofs.YtiheagkgpbkkfaaDoor
open Go.RowKit Go.Shelf
set_option linter.unusedVariables false
/-- A walk that goes off the code's end alone. -/
def GoesOn (G : World → Prop) : Exit → Act → World → Prop
  | .normal, _, W => G W
  | .ret, _, _ => False
  | .exit _, _, _ => False
  | .goto _, _, _ => False
  | .panic _, _, _ => False
  | .outgrown, _, _ => False
/-- A function that hands things out, one by one: from state s the things x lead to state t, being (in the world at hand) as Ok says; all of it leads from s0 to s1. What a round keeps is Kp. What is held between two rounds must bear no more than new blocks. -/
def Hands {β : Type} (F : Fence) (n : Nat) (P : Program) (g : Nat) (lb : Array Value) (Ok : β → Array Value → β → World → Prop) (Kp : World → World → Prop) (s0 s1 : β) (w : World) : Prop :=
  ∀ (l : Nat) (J : β → World → Prop) (W : World), Below w.heap.size w W → (∀ s A B, J s A → Below A.heap.size A B → J s B) →
    (∀ s x t A, J s A → Ok s x t A → YieldAt F (n - 1) P l x A fun e B => e = .returned (.bool true) ∧ J t B ∧ Kp A B) → J s0 W →
    CallsIn F n P g (#[.func (.yield l) #[] #[]] ++ lb) W fun e B => (∃ v, e = .returned v) ∧ J s1 B
theorem grown_of_below {A B : World} (h : Below A.heap.size A B) : A.grownBy B none := ⟨h.os, h.tape, h.output, h.size, fun k hk _ => h.block k hk⟩
/-- The loop over such a function. -/
theorem hands_range {β : Type} {F : Fence} {n : Nat} {P : Program} {g : Operand} {ps : Array Tmp} {assign body : Code} {Q : Exit → Act → World → Prop} {a : Act} {w w0 : World} {gf : Nat} {lb : Array Value} {Ok : β → Array Value → β → World → Prop} {Kp : World → World → Prop} {s0 s1 : β}
    (hro : F.round = none) (h1 : 1 ≤ n) (hg : a.eval g = .func (.func gf) #[] lb) (hF : F.fn gf) (eg : ∀ args w, (callFunc gf args).run P w = .ok (.enter gf args) w)
    (H : Hands F (n - 1) P gf lb Ok Kp s0 s1 w0) (hb0 : Below w0.heap.size w0 w) (hKt : ∀ {A B C : World}, Kp A B → Kp B C → Kp A C) (hKb : ∀ (A : World) (k : Nat) (o : Obj), w.heap.size ≤ k → Kp A (A.putObj k o))
    (hOk : ∀ s x t A (k : Nat) (o o' : Obj), Ok s x t A → w.heap.size ≤ k → A.heap[k]? = some o → o.isCells = false → Ok s x t (A.putObj k o')) (hps : ∀ s x t A, Ok s x t A → x.size = ps.size)
    (I : β → World → Prop) (hI : OwnFrom w.heap.size I) (h0 : I s0 w)
    (hround : ∀ (l : Nat) s x t W, I s W → Ok s x t W → ∃ a1 : Act,
      (∀ (A : World) (K : Act → World → Prop), K a1 A → assign.wpIn (F.inRound l) (n - 1 - 1) P (Exit.then K (fun _ _ _ => False)) { tmps := (ps.zip x).foldl (fun t (p, v) => t.setIfInBounds p v) a.tmps, defers := [] } A) ∧
      body.wpIn (F.inRound l) (n - 1 - 1) P (GoesOn fun B => KeepsFrom w.heap.size W B ∧ Kp W B ∧ I t B) a1 W)
    (hdone : ∀ (D : Nat) (W : World), w.heap.size ≤ D → I s1 W → W.heap[D]? = some (.deferred (some [])) → Q .normal { a with defers := { target := .collected D, args := #[] } :: a.defers } W) :
    (Code.rangeFunc g ps assign body).wpIn F n P Q a w := by
  obtain ⟨B, hB⟩ : ∃ B, w.heap.size = B := ⟨_, rfl⟩
  refine wpIn_rangeFunc fun fn hfn => ?_
  obtain ⟨lp, hlp⟩ : ∃ lp : LoopState → Loop, lp = fun st => { state := st, pending := none, fn, tmps := a.tmps, params := ps, assign, body, defers := B } := ⟨_, rfl⟩
  obtain ⟨W1, hW1⟩ : ∃ W1, (w.alloc (.deferred (some []))).alloc (.loop (lp .ready)) = W1 := ⟨_, rfl⟩
  -- the two blocks of the loop's own
  let Bk : LoopState → World → Prop := fun st W => W.heap[B + 1]? = some (.loop (lp st)) ∧ W.heap[B]? = some (.deferred (some []))
  have bk1 : Bk .ready W1 := by
    constructor
    · rw [← hW1, ← hB]
      have := World.alloc_heap_new (w.alloc (.deferred (some []))) (.loop (lp .ready))
      rwa [World.size_alloc] at this
    · rw [← hW1, ← hB]
      exact (Below.heap_alloc _ _ _ (by simp)).trans (World.alloc_heap_new w _)
  have bkBelow : ∀ {st : LoopState} {X Y : World}, Bk st X → Below X.heap.size X Y → Bk st Y := fun h hb =>
    ⟨(hb.block _ (Array.getElem?_eq_some_iff.1 h.1).1).trans h.1, (hb.block _ (Array.getElem?_eq_some_iff.1 h.2).1).trans h.2⟩
  have bkPut : ∀ {st : LoopState} (st' : LoopState) {X : World}, Bk st X → Bk st' (X.putObj (B + 1) (.loop (lp st'))) := fun st' X h =>
    ⟨World.putObj_heap_same (Array.getElem?_eq_some_iff.1 h.1).1, (World.putObj_heap_other (by omega)).trans h.2⟩
  rw [hB] at hI hKb hOk hround hdone
  have iPut : ∀ {s : β} {st : LoopState} (st' : LoopState) {X : World}, I s X → Bk st X → I s (X.putObj (B + 1) (.loop (lp st'))) := fun st' X h k => hI.putObj _ h (by omega) k.1 rfl
  have i1 : I s0 W1 := by rw [← hW1]; exact hI.alloc _ (hI.alloc _ h0)
  have b1 : Below w0.heap.size w0 W1 := by
    rw [← hW1]
    exact hb0.trans ((((Below.refl _ w).alloc (Nat.le_refl _) _).alloc (by simp) _).mono hb0.size)
  refine ⟨B + 1, [{ target := .collected B, args := #[] }], W1, { target := .fn (.func gf) lb, args := #[.func (.yield (B + 1)) #[] #[]] }, W1, gf, #[.func (.yield (B + 1)) #[] #[]] ++ lb, W1, ?_, ?_, ?_, ?_, fun _ => h1, ?_⟩
  · rw [hro, ← hW1, hlp, ← hB]
    exact run_enterLoop_outer _ _ _ _ _
  · simp only [resolve, hg]
    simp [go_sem]
  · intro f' hf'
    simp [Target.leads] at hf'
    subst hf'
    exact hF
  · simp [invoke, go_sem, eg]
  · refine (H (B + 1) (fun s W => I s W ∧ Bk .ready W) W1 b1 (fun s X Y hs hb => ⟨hI s X Y none hs.1 (grown_of_below hb) (fun r e => by cases e), bkBelow hs.2 hb⟩) ?_ ⟨i1, bk1⟩).mono ?_
    · rintro s x t W ⟨hi, hk⟩ ho
      obtain ⟨a1, hass, hbody⟩ := hround (B + 1) s x t (W.putObj (B + 1) (.loop (lp .busy))) (iPut .busy hi hk) (hOk _ _ _ _ _ _ _ ho (by omega) hk.1 rfl)
      have hy := run_yield (P := P) (args := x) hk.1 (by rw [hlp]; exact hps _ _ _ _ ho)
      rw [hlp] at hy
      refine ⟨fn, _, assign, body, hy, roundIn_of_wpIn hfn (hass W _ ⟨W.putObj (B + 1) (.loop (lp .busy)), ?_, ?_⟩)⟩
      · have := run_beginRound (P := P) hk.1 (by rw [hlp])
        rw [hlp] at this ⊢
        exact this
      · refine wpIn_mono hbody ?_
        rintro e a3 W3 hp
        cases e with
        | normal =>
          obtain ⟨hkf, hkp, hi3⟩ := hp
          have hk2 : Bk .busy (W.putObj (B + 1) (.loop (lp .busy))) := bkPut .busy hk
          have hk3 : Bk .busy W3 := ⟨hkf.same _ _ (by omega) hk2.1 rfl, hkf.same _ _ (Nat.le_refl _) hk2.2 rfl⟩
          refine ⟨.bool true, W3.putObj (B + 1) (.loop (lp .ready)), ?_, rfl, ⟨iPut .ready hi3 hk3, bkPut .ready hk3⟩, hKt (hKt (hKb _ _ _ (by omega)) hkp) (hKb _ _ _ (by omega))⟩
          have h := hk3.1
          rw [hlp] at h
          have := run_endRound (P := P) none h
          rw [hlp]
          exact this
        | ret => exact hp.elim
        | exit id => exact hp.elim
        | goto t => exact hp.elim
        | panic ch => exact hp.elim
        | outgrown => exact hp.elim
    · rintro e W2 ⟨⟨v, rfl⟩, hi, hk⟩
      have h := hk.1
      have hend := run_endLoop (P := P) h (by rw [hlp]; simp)
      rw [hlp] at hend
      refine ⟨none, _, hend, hdone B _ (Nat.le_refl _) (hI.putObj _ hi (by omega) h rfl) ((World.putObj_heap_other (by omega)).trans hk.2)⟩
end Go.Proofs.YtiheagkgpbkkfaaDoor
