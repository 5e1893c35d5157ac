/-
  Walk of vocab.tokensOf.
-/
import Derived.Test.YtfgbpjajkmfkoaaVcS1
namespace Go.Proofs.Ytfgbpjajkmfkoaa
open Go.RowKit
set_option linter.unusedVariables false

theorem Try.infoSt : (Try.prog.info? 9).map (fun i => (i.zero, i.size, i.bytes)) = some (some (.string ⟨#[]⟩), 1, 16) := by kernel_rfl

theorem Ts.ofVr {w : World} {b n : Nat} {e : TypeId} {g : Nat → ByteArray} (h : Vr w b n e (fun i => .string (g i))) (hn : n ≤ maxLen) : Ts w (some ⟨b, 0, none⟩) n n ((List.range n).map g) :=
  ⟨by simp, Nat.le_refl _, hn, fun e => absurd e (by simp), fun _ => ⟨b, 0, rfl, h.lt, fun i hi => by
    rw [Nat.zero_add, h.cell hi]
    simp [at_, hi]⟩⟩

/-- Whatever lies there lies at or above a place. -/
def Hi (N : Nat) (a : Option Addr) : Prop := ∀ b off sp, a = some ⟨b, off, sp⟩ → N ≤ b
theorem hi_none (N : Nat) : Hi N none := fun _ _ _ h => by cases h
theorem hi_some {N b off : Nat} (h : N ≤ b) : Hi N (some ⟨b, off, none⟩) := fun _ _ _ e => by cases e; exact h
theorem Hi.mono {N M : Nat} {a : Option Addr} (h : Hi N a) (k : M ≤ N) : Hi M a := fun b off sp e => Nat.le_trans k (h b off sp e)
theorem Ts.mut {w w' : World} {a : Option Addr} {n c : Nat} {ts : List ByteArray} {S : Nat → Prop} {N : Nat} (h : Ts w a n c ts) (hm : Mut S w w') (hh : Hi N a) (hS : ∀ i, N ≤ i → ¬ S i) : Ts w' a n c ts :=
  ⟨h.len, h.le, h.mx, h.nil, fun hn => by
    obtain ⟨b, off, rfl, hlt, hc⟩ := h.at' hn
    have hb := hm.block b hlt (hS b (hh _ _ _ rfl))
    exact ⟨b, off, rfl, Nat.lt_of_lt_of_le hlt hm.size, fun i hi => by rw [← hc i hi]; simp [World.cell?, hb]⟩⟩
theorem Rw.mut {w w' : World} {a : Option Addr} {n c : Nat} {ts : List (ByteArray × Int)} {S : Nat → Prop} {N : Nat} (h : Rw w a n c ts) (hm : Mut S w w') (hh : Hi N a) (hS : ∀ i, N ≤ i → ¬ S i) : Rw w' a n c ts :=
  ⟨h.len, h.le, h.mx, h.nil, fun hn => by
    obtain ⟨b, off, rfl, hlt, hc⟩ := h.at' hn
    have hb := hm.block b hlt (hS b (hh _ _ _ rfl))
    refine ⟨b, off, rfl, Nat.lt_of_lt_of_le hlt hm.size, fun i hi => ?_⟩
    obtain ⟨c0, c1⟩ := hc i hi
    exact ⟨by rw [← c0]; simp [World.cell?, hb], by rw [← c1]; simp [World.cell?, hb]⟩⟩
theorem Qw.mut {w w' : World} {a : Option Addr} {n c : Nat} {ts : List Mg4} {S : Nat → Prop} {N : Nat} (h : Qw w a n c ts) (hm : Mut S w w') (hh : Hi N a) (hS : ∀ i, N ≤ i → ¬ S i) : Qw w' a n c ts :=
  ⟨h.len, h.le, h.mx, h.nil, fun hn => by
    obtain ⟨b, off, rfl, hlt, hc⟩ := h.at' hn
    have hb := hm.block b hlt (hS b (hh _ _ _ rfl))
    refine ⟨b, off, rfl, Nat.lt_of_lt_of_le hlt hm.size, fun i hi => ?_⟩
    obtain ⟨c0, c1, c2, c3⟩ := hc i hi
    exact ⟨by rw [← c0]; simp [World.cell?, hb], by rw [← c1]; simp [World.cell?, hb], by rw [← c2]; simp [World.cell?, hb], by rw [← c3]; simp [World.cell?, hb]⟩⟩
theorem mut_three (W : World) (R : Nat) (x y z : Value) {S : Nat → Prop} (h : S R) : Mut S W (three W R x y z) :=
  ((Mut.set W R 0 x h).trans (Mut.set _ R 1 y h) (fun _ _ e => e)).trans (Mut.set _ R 2 z h) (fun _ _ e => e)
theorem hi_own {w : World} {base n c k m : Nat} {e : TypeId} {a : Option Addr} {xs : List Value} (h : w.ownsRow base e k (.slice a n c) m xs) : Hi base a := by
  obtain ⟨_, h⟩ := h
  rcases h with ⟨h1, h2⟩ | ⟨g2, cap2, cur, h1, hb, _⟩
  · cases h1; exact hi_none _
  · cases h1; exact hi_some hb

/-- What tokensOf answers. -/
def TkOut (M : Nat) (rs sp : Vc.Sps) (e : Ending) (w' : World) : Prop :=
  (Vc.Ranks rs sp ∧ ∃ ts b, M ≤ b ∧ Vc.TokIs rs sp ts ∧ e = .returned (.tuple #[.slice (some ⟨b, 0, none⟩) ts.length ts.length, .bool true]) ∧ Ts w' (some ⟨b, 0, none⟩) ts.length ts.length ts) ∨
  (¬ Vc.Ranks rs sp ∧ e = .returned (.tuple #[.slice none 0 0, .bool false]))

end Go.Proofs.Ytfgbpjajkmfkoaa
