/-
  The program's cache, as the laws' walks ask for it: a cache in memory beside blocks that lie apart.
-/
import Derived.Test.YtbcanfelfdalbaaCaPt
namespace Go.Proofs.Ytbcanfelfdalbaa
open Go.RowKit Go.Maps Ca
set_option linter.unusedVariables false
/-- A cache in memory at B, whose blocks are S, that has room for so many, holds l, and has counted h and m; beside blocks X that lie apart; all of it grew behind w0. -/
structure Cq (w0 w : World) (B : Nat) (S : Nat → Prop) (room : Nat) (l : Kl) (h m : Nat) (X : Nat → Prop) : Prop where
  ex : ∃ M g cap n e p, Cz w B M g cap n room h m e p S ∧ l = pl e p ∧ p.length ≤ room
  rm : room ≤ 1048576
  ab : ∀ k, S k → w0.heap.size ≤ k
  bel : Below w0.heap.size w0 w
  xs : ∀ k, X k → k < w.heap.size ∧ ¬ S k
section
variable {w0 w w' : World} {B room h m : Nat} {S X X' : Nat → Prop} {l : Kl}
theorem Cq.below (H : Cq w0 w B S room l h m X) : Below w0.heap.size w0 w := H.bel
theorem Cq.lt (H : Cq w0 w B S room l h m X) : ∀ k, S k → k < w.heap.size := by
  obtain ⟨M, g, cap, n, e, p, Z, _⟩ := H.ex
  exact Z.sz
theorem Cq.apart (H : Cq w0 w B S room l h m X) : ∀ k, X k → k < w.heap.size ∧ ¬ S k := H.xs
theorem Cq.re (H : Cq w0 w B S room l h m X) (hX : ∀ k, X' k → k < w.heap.size ∧ ¬ S k) : Cq w0 w B S room l h m X' := ⟨H.ex, H.rm, H.ab, H.bel, hX⟩
theorem Cq.dis (H : Cq w0 w B S room l h m X) : Dis l := by
  obtain ⟨M, g, cap, n, e, p, Z, rfl, _⟩ := H.ex
  exact Z.dis
theorem Cq.le (H : Cq w0 w B S room l h m X) : l.length ≤ room := by
  obtain ⟨M, g, cap, n, e, p, Z, rfl, hp⟩ := H.ex
  rw [pl_len]
  exact hp
theorem Cq.mut (H : Cq w0 w B S room l h m X) {T : Nat → Prop} (hm : Mut T w w') (hT : ∀ k, T k → ¬ S k) (hb : ∀ k, T k → w0.heap.size ≤ k) (hX : ∀ k, X' k → k < w'.heap.size ∧ ¬ S k) : Cq w0 w' B S room l h m X' := by
  obtain ⟨M, g, cap, n, e, p, Z, hl, hp⟩ := H.ex
  exact ⟨⟨M, g, cap, n, e, p, Z.mut hm hT, hl, hp⟩, H.rm, H.ab, H.bel.trans (hm.below H.bel.size hb), hX⟩
theorem Cq.grow (H : Cq w0 w B S room l h m X) (hb : Below w.heap.size w w') (hX : ∀ k, X' k → X k ∨ (w.heap.size ≤ k ∧ k < w'.heap.size)) : Cq w0 w' B S room l h m X' :=
  H.mut (Mut.ofBelow hb fun _ => False) (fun _ e => e.elim) (fun _ e => e.elim) (fun k hk => by
    rcases hX k hk with h1 | h1
    · exact ⟨Nat.lt_of_lt_of_le (H.xs k h1).1 hb.size, (H.xs k h1).2⟩
    · exact ⟨h1.2, fun e => Nat.lt_irrefl _ (Nat.lt_of_lt_of_le (H.lt k e) h1.1)⟩)
theorem Cq.keep (H : Cq w0 w B S room l h m X) {T : Nat → Prop} (hm : Mut T w w') (hT : ∀ k, T k → X k) (hb : ∀ k, T k → w0.heap.size ≤ k) : Cq w0 w' B S room l h m X :=
  H.mut hm (fun k e => (H.xs k (hT k e)).2) hb (fun k hk => ⟨Nat.lt_of_lt_of_le (H.xs k hk).1 hm.size, (H.xs k hk).2⟩)
/-- The same cache, elsewhere in memory. -/
def CqOut (w0 : World) (B room : Nat) (l : Kl) (h m : Nat) (X : Nat → Prop) (w w' : World) : Prop := ∃ S', Cq w0 w' B S' room l h m X ∧ ∀ k, X k → w'.heap[k]? = w.heap[k]?
theorem cnew_yes (w0 w : World) (hb : Below w0.heap.size w0 w) (room : Nat) (hr : room ≤ 1048576) : Calls Try.prog 7 #[.int .i64 (room : Int)] w fun e w' => (∃ B S, e = .returned (.pointer (some ⟨B, 0, none⟩)) ∧ Cq w0 w' B S room [] 0 0 (fun _ => False)) ∧ Below w.heap.size w w' := by
  refine (cnew_z w room hr).mono ?_
  rintro r w' ⟨rfl, Z, b⟩
  exact ⟨⟨_, _, rfl, ⟨_, _, _, _, _, _, Z, rfl, Nat.zero_le _⟩, hr, fun k hk => Nat.le_trans hb.size hk.1, hb.trans (b.mono hb.size), fun k hk => hk.elim⟩, b⟩
theorem capt_calls (H : Cq w0 w B S room l h m X) (k : ByteArray) (hk : k.size ≤ 1000000) {a : Option Addr} {n c : Nat} {xs : Pr.Row} (R : Ir w a n c xs) (hn : n ≤ 1000000) (hA : ∀ b off, 0 < n → a = some ⟨b, off, none⟩ → ¬ S b) : Calls Try.prog 11 #[.pointer (some ⟨B, 0, none⟩), .string k, .slice a n c] w fun e w' => e = .returned (.tuple #[]) ∧ CqOut w0 B room (Ca.put l room (k, xs)) h m X w w' := by
  obtain ⟨M, g, cap, n', e, p, Z, rfl, hp⟩ := H.ex
  refine (cput_z Z hp H.rm k hk R hn hA).mono ?_
  rintro r w' ⟨rfl, g', cap', n2, e', p', S', Z', hp', hl, hS, hm⟩
  refine ⟨rfl, S', ⟨⟨M, g', cap', n2, e', p', Z', hl.symm, hp'⟩, H.rm, fun b hb => ?_, H.bel.trans (hm.below H.bel.size H.ab), fun b hb => ⟨Nat.lt_of_lt_of_le (H.xs b hb).1 hm.size, fun e => ?_⟩⟩, fun b hb => hm.block b (H.xs b hb).1 (H.xs b hb).2⟩
  · rcases hS b hb with h1 | h1
    · exact H.ab b h1
    · exact Nat.le_trans H.bel.size h1
  · rcases hS b e with h1 | h1
    · exact (H.xs b hb).2 h1
    · exact Nat.lt_irrefl _ (Nat.lt_of_lt_of_le (H.xs b hb).1 h1)
def CaGet (w0 : World) (B room : Nat) (l : Kl) (h m : Nat) (X : Nat → Prop) (k : ByteArray) (w : World) (e : Ending) (w' : World) : Prop :=
  (∃ xs a n c, (k, xs) ∈ l ∧ e = .returned (.tuple #[.slice a n c, .bool true]) ∧ w'.ownsRow w.heap.size 3 1 (.slice a n c) n (iv xs) ∧ ∃ S', Cq w0 w' B S' room (Ca.young l (k, xs)) (h + 1) m (fun b => X b ∨ (Value.slice a n c).ownBlock = some b) ∧ ∀ b, X b → w'.heap[b]? = w.heap[b]?) ∨
  ((∀ x ∈ l, x.1 ≠ k) ∧ e = .returned (.tuple #[.slice none 0 0, .bool false]) ∧ CqOut w0 B room l h (m + 1) X w w')
theorem Cz.apart3 {w : World} {B M g cap n room h m : Nat} {e : Nat → En} {p : List Nat} {S : Nat → Prop} (Z : Cz w B M g cap n room h m e p S) : ∀ b, (b = B ∨ b = M ∨ b = g) → S b := fun b hb => Z.three hb
theorem cget_calls (H : Cq w0 w B S room l h m X) (k : ByteArray) (hk : k.size ≤ 1000000) (hh : h + m ≤ 1000000) : Calls Try.prog 13 #[.pointer (some ⟨B, 0, none⟩), .string k] w fun e w' => CaGet w0 B room l h m X k w e w' := by
  obtain ⟨M, g, cap, n', e, p, Z, rfl, hp⟩ := H.ex
  have hn := Z.len
  have hrm := H.rm
  refine (cget_z Z k hk (by omega) hh).mono ?_
  rintro r w' (⟨a, sa, sn, sc, e', p', ha, rfl, rfl, o, Z', hp', hl, hm⟩ | ⟨hno, rfl, Z', hm⟩)
  · have hm2 := hm.weak Z.apart3
    refine .inl ⟨_, sa, sn, sc, List.mem_map.2 ⟨a, ha, rfl⟩, rfl, o, S, ⟨⟨M, g, cap, n', e', p', Z', hl.symm, by omega⟩, H.rm, H.ab, H.bel.trans (hm2.below H.bel.size H.ab), fun b hb => ?_⟩, fun b hb => hm2.block b (H.xs b hb).1 (H.xs b hb).2⟩
    rcases hb with h1 | h1
    · exact ⟨Nat.lt_of_lt_of_le (H.xs b h1).1 hm.size, (H.xs b h1).2⟩
    · obtain ⟨q1, q2⟩ := o.lt b h1
      exact ⟨q2, fun e => Nat.lt_irrefl _ (Nat.lt_of_lt_of_le (Z.sz b e) q1)⟩
  · have hm2 := hm.weak Z.apart3
    exact .inr ⟨pl_none hno, rfl, S, ⟨⟨M, g, cap, n', e, p, Z', rfl, hp⟩, H.rm, H.ab, H.bel.trans (hm2.below H.bel.size H.ab), fun b hb => ⟨Nat.lt_of_lt_of_le (H.xs b hb).1 hm.size, (H.xs b hb).2⟩⟩, fun b hb => hm2.block b (H.xs b hb).1 (H.xs b hb).2⟩
theorem ckeys_calls (H : Cq w0 w B S room l h m X) : Calls Try.prog 17 #[.pointer (some ⟨B, 0, none⟩)] w fun e w' => (∃ a c, e = .returned (.slice a l.length c) ∧ Ts w' a l.length c (l.map fun x => x.1)) ∧ Below w.heap.size w w' := by
  obtain ⟨M, g, cap, n', e, p, Z, rfl, hp⟩ := H.ex
  have hn := Z.len
  have hrm := H.rm
  rw [pl_len]
  exact ckeys_z Z (by omega)
theorem ccounts_calls (H : Cq w0 w B S room l h m X) : Calls Try.prog 18 #[.pointer (some ⟨B, 0, none⟩)] w fun e w' => e = .returned (.tuple #[.int .i64 (h : Int), .int .i64 (m : Int)]) ∧ Below w.heap.size w w' := by
  obtain ⟨M, g, cap, n', e, p, Z, rfl, hp⟩ := H.ex
  exact ccounts_z Z
theorem clen_calls (H : Cq w0 w B S room l h m X) : Calls Try.prog 19 #[.pointer (some ⟨B, 0, none⟩)] w fun e w' => e = .returned (.int .i64 (l.length : Int)) ∧ Below w.heap.size w w' := by
  obtain ⟨M, g, cap, n', e, p, Z, rfl, hp⟩ := H.ex
  rw [pl_len]
  refine (clen_z Z).mono ?_
  rintro r w ⟨rfl, rfl⟩
  exact ⟨rfl, Below.refl _ _⟩
theorem croom_calls (H : Cq w0 w B S room l h m X) : Calls Try.prog 10 #[.pointer (some ⟨B, 0, none⟩)] w fun e w' => e = .returned (.int .i64 (room : Int)) ∧ Below w.heap.size w w' := by
  obtain ⟨M, g, cap, n', e, p, Z, rfl, hp⟩ := H.ex
  refine (croom_z Z).mono ?_
  rintro r w ⟨rfl, rfl⟩
  exact ⟨rfl, Below.refl _ _⟩
end
theorem croom_no (w : World) : Calls Try.prog 10 #[.pointer none] w fun e w' => e = .returned (.int .i64 0) ∧ w' = w := by
  go_enter Try.func10, Try.ntmps10
  go_wp2_with fail
  go_ret
  exact ⟨rfl, rfl⟩
theorem croom_nil (w : World) : Calls Try.prog 10 #[.pointer none] w fun e w' => e = .returned (.int .i64 0) ∧ Below w.heap.size w w' := by
  refine (croom_no w).mono ?_
  rintro r w ⟨rfl, rfl⟩
  exact ⟨rfl, Below.refl _ _⟩
theorem cput_nil (w : World) (k : ByteArray) (a : Option Addr) (n c : Nat) : Calls Try.prog 11 #[.pointer none, .string k, .slice a n c] w fun e w' => e = .returned (.tuple #[]) ∧ Below w.heap.size w w' := by
  go_enter Try.func11, Try.ntmps11
  go_wp2_with fail
  refine (croom_no w).mono ?_
  rintro r w ⟨rfl, rfl⟩
  go_wp2_with fail
  refine bodyPost_ret (v := .tuple #[]) (by simp [results, Try.results11, go_sem]) rfl ?_
  exact ⟨rfl, Below.refl _ _⟩
theorem cget_nil (w : World) (k : ByteArray) : Calls Try.prog 13 #[.pointer none, .string k] w fun e w' => e = .returned (.tuple #[.slice none 0 0, .bool false]) ∧ Below w.heap.size w w' := by
  go_enter Try.func13, Try.ntmps13
  go_wp2_with fail
  refine bodyPost_ret (v := .tuple #[.slice none 0 0, .bool false]) (by simp [results, Try.results13, go_sem]) rfl ?_
  exact ⟨rfl, Below.refl _ _⟩
theorem ckeys_nil (w : World) : Calls Try.prog 17 #[.pointer none] w fun e w' => (∃ a c, e = .returned (.slice a 0 c)) ∧ Below w.heap.size w w' := by
  go_enter Try.func17, Try.ntmps17
  go_wp2_with fail
  go_ret
  exact ⟨⟨_, _, rfl⟩, Below.refl _ _⟩
theorem ccounts_nil (w : World) : Calls Try.prog 18 #[.pointer none] w fun e w' => e = .returned (.tuple #[.int .i64 0, .int .i64 0]) ∧ Below w.heap.size w w' := by
  go_enter Try.func18, Try.ntmps18
  go_wp2_with fail
  refine bodyPost_ret (v := .tuple #[.int .i64 0, .int .i64 0]) (by simp [results, Try.results18, go_sem]) rfl ?_
  exact ⟨rfl, Below.refl _ _⟩
theorem clen_nil (w : World) : Calls Try.prog 19 #[.pointer none] w fun e w' => e = .returned (.int .i64 0) ∧ Below w.heap.size w w' := by
  go_enter Try.func19, Try.ntmps19
  go_wp2_with fail
  go_ret
  exact ⟨rfl, Below.refl _ _⟩
end Go.Proofs.Ytbcanfelfdalbaa
