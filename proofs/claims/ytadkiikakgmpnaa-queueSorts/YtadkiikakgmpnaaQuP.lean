/-
  What the laws' walks carry: an agenda beside a row of entries and an operation's block.
-/
import Derived.Test.YtadkiikakgmpnaaQuF
import Derived.Test.YtadkiikakgmpnaaOpenQu
namespace Go.Proofs.Ytadkiikakgmpnaa
open Go.RowKit Go.Maps Hp
set_option linter.unusedVariables false
theorem row_at {w w' : World} {base n size : Nat} {e : TypeId} {v : Value} {xs : List Value} (h : w.ownsRow base e size v n xs) (hk : ∀ k, v.ownBlock = some k → w'.heap[k]? = w.heap[k]?) : w'.ownsRow base e size v n xs := by
  refine ⟨h.1, ?_⟩
  rcases h.2 with hn | ⟨g, cap, cur, hv, hB, hg, rest⟩
  · exact .inl hn
  · exact .inr ⟨g, cap, cur, hv, hB, (hk g (by rw [hv]; rfl)).trans hg, rest⟩
theorem er_of {w : World} {base n c : Nat} {e : TypeId} {a : Option Addr} {l : List Ent} (h : w.ownsRow base e 3 (.slice a n c) l.length (evl l)) : Er w a n c l := by
  obtain ⟨a', c', he, r⟩ := er_own h
  simp only [Value.slice.injEq] at he
  obtain ⟨rfl, rfl, rfl⟩ := he
  exact r
theorem bool_same {p : Prop} [Decidable p] {a b : Bool} (h : decide p = b) (k : a = true ↔ p) : a = b := by
  subst h
  by_cases hp : p
  · rw [k.2 hp, decide_eq_true hp]
  · rw [decide_eq_false hp]
    cases a with
    | true => exact absurd (k.1 rfl) hp
    | false => rfl
/-- An operation's block. -/
def Opb (w : World) (t : TypeId) (K : Nat) (kd : Int) (x : Ent) : Prop := w.heap[K]? = some (.cells #[.int .u8 kd, .int .i64 x.1, .int .i64 x.2.1, .int .i64 x.2.2] t (0, 0))
section
variable {w w' : World} {t : TypeId} {K : Nat} {kd : Int} {x : Ent}
theorem Opb.c0 (h : Opb w t K kd x) : w.cell? ⟨K, 0, none⟩ = some (.int .u8 kd) := by simp only [World.cell?, show w.heap[K]? = _ from h]; rfl
theorem Opb.c1 (h : Opb w t K kd x) : w.cell? ⟨K, 1, none⟩ = some (.int .i64 x.1) := by simp only [World.cell?, show w.heap[K]? = _ from h]; rfl
theorem Opb.c2 (h : Opb w t K kd x) : w.cell? ⟨K, 2, none⟩ = some (.int .i64 x.2.1) := by simp only [World.cell?, show w.heap[K]? = _ from h]; rfl
theorem Opb.c3 (h : Opb w t K kd x) : w.cell? ⟨K, 3, none⟩ = some (.int .i64 x.2.2) := by simp only [World.cell?, show w.heap[K]? = _ from h]; rfl
theorem Opb.at (h : Opb w t K kd x) (hb : w'.heap[K]? = w.heap[K]?) : Opb w' t K kd x := hb.trans h
theorem Opb.below (h : Opb w t K kd x) (hb : Below w.heap.size w w') : Opb w' t K kd x := (hb.block K (Array.getElem?_eq_some_iff.1 h).1).trans h
end
section
variable {w0 w w' : World} {O M : Nat} {v vr v' : Value} {l : List Ent} {X : Nat → Prop}
theorem Sq.app (h : Sq w0 w O M v l X) (o : Obj) (hg : (w.alloc o).grownBy w' vr.ownBlock) (hx : ∀ k, vr.ownBlock = some k → X k ∧ w0.heap.size ≤ k) (hv : v'.ownBlock = vr.ownBlock ∨ v'.ownBlock = some (w.alloc o).heap.size) (hlt : ∀ k, v'.ownBlock = some k → k < w'.heap.size) :
    Sq w0 w' O M v l (fun k => v'.ownBlock = some k) := by
  have ha := h.grow ((Below.refl _ _).alloc (Nat.le_refl _) o) (X' := X) (fun k hk => .inl hk)
  have hm : Mut (fun k => vr.ownBlock = some k) (w.alloc o) w' := grown_mut hg (fun k e => e)
  have h2 := ha.keep hm (fun k e => (hx k e).1) (fun k e => (hx k e).2)
  refine ⟨h2.q, h2.base, h2.below, fun k hk => ⟨hlt k hk, fun e => ?_⟩⟩
  rcases hv with h3 | h3
  · exact (h.apart k (hx k (h3.symm.trans hk)).1).2 e
  · rw [h3] at hk
    have h4 := Option.some.inj hk
    have h5 := h.q.lt e
    simp at h4
    omega
theorem wo_lt {p : Int} (hd : Dis l) : (∃ x ∈ l, x.1 = p) ↔ (wo l p).length < l.length := by
  constructor
  · intro h
    have := wo_len hd h
    omega
  · intro h
    apply Classical.byContradiction
    intro hno
    rw [wo_none (fun e he hp => hno ⟨e, he, hp⟩)] at h
    omega
end
end Go.Proofs.Ytadkiikakgmpnaa
