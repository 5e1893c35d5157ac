/-
  Rows into which a thing is put at its place.
-/
import Derived.Test.YtfgbpjajkmfkoaaVcSp
import Derived.Test.YtfgbpjajkmfkoaaVcS2
namespace Go.Proofs.Ytfgbpjajkmfkoaa
open Go.RowKit Go.Maps
set_option linter.unusedVariables false

theorem ins_sorted {α : Type} (lt : α → α → Prop) {xs : List α} {x : α} {k : Nat} (h : xs.Pairwise (fun a b => ¬ lt b a)) (h1 : ∀ a ∈ xs.take k, ¬ lt x a) (h2 : ∀ b ∈ xs.drop k, ¬ lt b x) : (xs.take k ++ x :: xs.drop k).Pairwise (fun a b => ¬ lt b a) := by
  rw [← List.take_append_drop k xs, List.pairwise_append] at h
  obtain ⟨p1, p2, p3⟩ := h
  rw [List.pairwise_append, List.pairwise_cons]
  refine ⟨p1, ⟨h2, p2⟩, fun a ha b hb => ?_⟩
  rcases List.mem_cons.1 hb with rfl | hb
  · exact h1 a ha
  · exact p3 a ha b hb
theorem ins_perm {α : Type} (xs : List α) (x : α) (k : Nat) : (xs.take k ++ x :: xs.drop k).Perm (x :: xs) := by
  refine List.perm_middle.trans ?_
  rw [List.take_append_drop]
/-- A special put among others, behind those of its name. -/
def Vc.InsS (sp : Vc.Sps) (x : ByteArray × Int) (out : Vc.Sps) : Prop :=
  ∃ k, k ≤ sp.length ∧ out = sp.take k ++ x :: sp.drop k ∧ (∀ i, i < k → ¬ Vc.NLt x.1 (tat sp i)) ∧ (k < sp.length → Vc.NLt x.1 (tat sp k))
theorem Vc.InsS.perm {sp : Vc.Sps} {x : ByteArray × Int} {out : Vc.Sps} (h : Vc.InsS sp x out) : out.Perm (x :: sp) := by
  obtain ⟨k, _, rfl, _⟩ := h
  exact ins_perm sp x k
theorem Vc.InsS.up {sp : Vc.Sps} {x : ByteArray × Int} {out : Vc.Sps} (h : Vc.InsS sp x out) (hs : sp.Pairwise (fun a b => ¬ Vc.NLt b.1 a.1)) : out.Pairwise (fun a b => ¬ Vc.NLt b.1 a.1) := by
  obtain ⟨k, hk, rfl, h1, h2⟩ := h
  refine ins_sorted (fun a b : ByteArray × Int => Vc.NLt a.1 b.1) hs (fun a ha => ?_) (fun b hb => ?_)
  · obtain ⟨i, hi, rfl⟩ := List.mem_iff_getElem.1 ha
    have hi' : i < k := by rw [List.length_take] at hi; omega
    have h3 := h1 i hi'
    have e : ((sp.take k)[i]).1 = tat sp i := by simp [tat, show i < sp.length by omega]
    show ¬ Vc.NLt x.1 ((sp.take k)[i]).1
    rw [e]
    exact h3
  · obtain ⟨i, hi, rfl⟩ := List.mem_iff_getElem.1 hb
    rw [List.length_drop] at hi
    have h3 := h2 (by omega)
    have e : ((sp.drop k)[i]).1 = tat sp (k + i) := by simp [tat, show k + i < sp.length by omega]
    show ¬ Vc.NLt ((sp.drop k)[i]).1 x.1
    rw [e]
    intro h5
    by_cases h0 : i = 0
    · subst h0; exact Vc.nlt_irrefl _ (nlt_trans h3 h5)
    · have h4 := (List.pairwise_iff_getElem.1 hs) k (k + i) (by omega) (by omega) (by omega)
      have e1 : (sp[k]).1 = tat sp k := by simp [tat, show k < sp.length by omega]
      have e2 : (sp[k + i]).1 = tat sp (k + i) := by simp [tat, show k + i < sp.length by omega]
      rw [e1, e2] at h4
      exact h4 (nlt_trans h5 h3)
theorem rw_drop {w : World} {b off n cap : Nat} {xs : Vc.Sps} (h : Rw w (some ⟨b, off, none⟩) n cap xs) (k : Nat) (hk : k ≤ n) : Rw w (some ⟨b, off + k * 2, none⟩) (n - k) (cap - k) (xs.drop k) :=
  ⟨by rw [List.length_drop, h.len], by have := h.le; omega, by have := h.mx; omega, fun e => absurd e (by simp), fun h0 => by
    obtain ⟨b', off', e, hlt, hc⟩ := h.at' (by omega)
    cases e
    refine ⟨b, off + k * 2, rfl, hlt, fun i hi => ?_⟩
    have q := hc (k + i) (by omega)
    have e1 : tat (xs.drop k) i = tat xs (k + i) := by simp [tat, List.getD_eq_getElem?_getD]
    have e3 : kat (xs.drop k) i = kat xs (k + i) := by simp [kat, List.getD_eq_getElem?_getD]
    have e2 : off + (k + i) * 2 = off + k * 2 + i * 2 := by omega
    rw [e1, e3, ← e2]
    exact q⟩

theorem own_at {w : World} {base n k : Nat} {e : TypeId} {v : Value} {xs : List Value} (h : w.ownsRow base e k v n xs) : ∀ q, v.ownBlock = some q → base ≤ q := fun q hq => by
  obtain ⟨_, ho⟩ := h
  rcases ho with ⟨h1, _⟩ | ⟨g, cap, cur, h1, hb, _⟩
  · rw [h1] at hq; simp [Value.ownBlock] at hq
  · rw [h1] at hq; simp [Value.ownBlock] at hq; omega
theorem own_addr {w : World} {base n m c k : Nat} {e : TypeId} {a : Option Addr} {xs : List Value} (h : w.ownsRow base e k (.slice a n c) m xs) : a = none ∨ ∃ b off, a = some ⟨b, off, none⟩ := by
  obtain ⟨_, ho⟩ := h
  rcases ho with ⟨h1, _⟩ | ⟨g, cap, cur, h1, hb, _⟩
  · cases h1; exact .inl rfl
  · cases h1; exact .inr ⟨_, _, rfl⟩
theorem Vo.mut {w w' : World} {a : Option Addr} {n c : Nat} {am : Option Addr} {nm cm : Nat} {az : Option Addr} {ns cs : Nat} {ts : List ByteArray} {ms : List Mg4} {sp : List (ByteArray × Int)} {S : Nat → Prop} {N : Nat} (h : Vo w a n c am nm cm az ns cs ts ms sp) (hm : Mut S w w') (h1 : Hi N a) (h2 : Hi N am) (h3 : Hi N az) (hS : ∀ i, N ≤ i → ¬ S i) : Vo w' a n c am nm cm az ns cs ts ms sp :=
  ⟨h.T.mut hm h1 hS, h.M.mut hm h2 hS, h.S.mut hm h3 hS⟩

/-- What base answers. -/
def BsOut (M : Nat) (rs sp : Vc.Sps) (e : Ending) (w' : World) : Prop :=
  (Vc.Ranks rs sp ∧ ∃ ts sp' b az ns cs t, (M ≤ b ∧ Hi M az) ∧ Vc.TokIs rs sp ts ∧ (t = true ↔ Vc.MayT ts) ∧ Vc.SpIs sp sp' ∧ e = .returned (.tuple #[.agg #[.slice (some ⟨b, 0, none⟩) ts.length ts.length, .slice none 0 0, .slice az ns cs], .bool t]) ∧ Ts w' (some ⟨b, 0, none⟩) ts.length ts.length ts ∧ Rw w' az ns cs sp') ∨
  (¬ Vc.Ranks rs sp ∧ e = .returned (.tuple #[.agg #[.slice none 0 0, .slice none 0 0, .slice none 0 0], .bool false]))

theorem bl_leq (s t : ByteArray) : (Op.bytesLess s.toList t.toList || s.toList == t.toList) = true ↔ ¬ Vc.NLt t s := by
  rw [Bool.or_eq_true, bl_iff, beq_iff_eq]
  constructor
  · rintro (h | h)
    · exact fun k => Vc.nlt_irrefl _ (nlt_trans h k)
    · rw [ba_eq h]; exact Vc.nlt_irrefl _
  · intro h
    by_cases k : Vc.NLt s t
    · exact .inl k
    · exact .inr (by rw [Vc.nlt_total k h])
end Go.Proofs.Ytfgbpjajkmfkoaa
