/-
  Walks of the reference's ring: At, Cut.
-/
import Derived.Test.YtgjeiikjpacocaaRrW1
namespace Go.Proofs.Ytgjeiikjpacocaa.Rr
open Go.RowKit
set_option linter.unusedVariables false
section
variable {w : World} {X : Nat → Prop} {a : Option Addr} {n cap : Nat} {f : Nat → Int}

set_option maxHeartbeats 1600000 in
theorem at_in (h : SkI w X a n cap f) (hn : n ≤ 1048576) (fr : Nat) (hfr : fr ≤ 1099511627776) (room : Int) (i : Nat) (hi : i < n) (N : Int) (hN : N = fr + i) :
    Calls Try.prog 28 #[row a n cap fr room, .int .i64 N] w fun e w' => e = .returned (.tuple #[.int .i32 (f i), .bool true]) ∧ Below w.heap.size w w' := by
  obtain ⟨b, off, rfl, hlt, _, hc⟩ := h.at' (by omega)
  have HB := hid ((Below.refl w.heap.size w).alloc (Nat.le_refl _) (.cells #[.slice (some ⟨b, off, none⟩) n cap, .int .i64 fr, .int .i64 room] 29))
  have hA := heap_alloc_new w (.cells #[.slice (some ⟨b, off, none⟩) n cap, .int .i64 fr, .int .i64 room] 29)
  obtain ⟨p0, p1, p2, _, _, _⟩ := cells_at hA
  have ci := hc i hi
  rw [← HB.out.cell (p := ⟨b, off + i, none⟩) hlt] at ci
  have HN := hid hN
  clear h hA hN hc hlt
  go_enter Try.func28, Try.ntmps28
  go_wp2_with fail
  generalize w.alloc (.cells #[.slice (some ⟨b, off, none⟩) n cap, .int .i64 fr, .int .i64 room] 29) = w0 at *
  go_loopg [10] n (fun k iv wr => ∃ j : Nat, k = n - j ∧ j ≤ i ∧ iv = .int .i64 j ∧ w0 = wr)
  case atStart => exact ⟨0, rfl, by omega, rfl, rfl⟩
  case round =>
    obtain ⟨j, rfl, hj, rfl, rfl⟩ := hrel
    have h1 : (j : Int) < n := by omega
    have h0 : (0 : Int) ≤ j := by omega
    have e1 : IntKind.i64.wrap ((fr : Int) + j) = fr + j := i64_in (by omega) (by omega)
    have e2 : IntKind.i64.wrap ((j : Int) + 1) = j + 1 := i64_in (by omega) (by omega)
    by_cases hji : j = i
    · subst hji
      have t1 : ((fr : Int) + j == N) = true := by simp; have := HN.out; omega
      go_wp2_with fail
      go_ret2
      exact ⟨rfl, HB.out⟩
    · have t1 : ((fr : Int) + j == N) = false := by simp; have := HN.out; omega
      go_wp2_with fail
      go_roundg (n - (j + 1))
      case measure => omega
      case rel => exact ⟨j + 1, rfl, by omega, by go_num, rfl⟩

set_option maxHeartbeats 1600000 in
theorem at_out (hn : n ≤ 1048576) (fr : Nat) (hfr : fr ≤ 1099511627776) (room : Int) (N : Int) (hN : N < fr ∨ (fr : Int) + n ≤ N) :
    Calls Try.prog 28 #[row a n cap fr room, .int .i64 N] w fun e w' => e = .returned (.tuple #[.int .i32 0, .bool false]) ∧ Below w.heap.size w w' := by
  have HB := hid ((Below.refl w.heap.size w).alloc (Nat.le_refl _) (.cells #[.slice a n cap, .int .i64 fr, .int .i64 room] 29))
  have hA := heap_alloc_new w (.cells #[.slice a n cap, .int .i64 fr, .int .i64 room] 29)
  obtain ⟨p0, p1, p2, _, _, _⟩ := cells_at hA
  have HN := hid hN
  clear hA hN
  go_enter Try.func28, Try.ntmps28
  go_wp2_with fail
  generalize w.alloc (.cells #[.slice a n cap, .int .i64 fr, .int .i64 room] 29) = w0 at *
  go_loopg [10] n (fun k iv wr => ∃ j : Nat, k = n - j ∧ j ≤ n ∧ iv = .int .i64 j ∧ w0 = wr)
  case atStart => exact ⟨0, rfl, by omega, rfl, rfl⟩
  case round =>
    obtain ⟨j, rfl, hj, rfl, rfl⟩ := hrel
    have h0 : (0 : Int) ≤ j := by omega
    have e1 : IntKind.i64.wrap ((fr : Int) + j) = fr + j := i64_in (by omega) (by omega)
    have e2 : IntKind.i64.wrap ((j : Int) + 1) = j + 1 := i64_in (by omega) (by omega)
    by_cases hji : j < n
    · have h1 : (j : Int) < n := by omega
      have t1 : ((fr : Int) + j == N) = false := by simp; have := HN.out; omega
      go_wp2_with fail
      go_roundg (n - (j + 1))
      case measure => omega
      case rel => exact ⟨j + 1, rfl, by omega, by go_num, rfl⟩
    · have h1 : ¬ (j : Int) < n := by omega
      go_wp2_with fail
      go_ret2
      exact ⟨rfl, HB.out⟩

set_option maxHeartbeats 1600000 in
theorem cut_out (hn : n ≤ 1048576) (fr : Nat) (hfr : fr ≤ 1099511627776) (room : Int) (N : Int) (hN : N < fr ∨ (fr : Int) + n < N) :
    Calls Try.prog 29 #[row a n cap fr room, .int .i64 N] w fun e w' => e = .returned (.tuple #[row a n cap fr room, .bool false]) ∧ Below w.heap.size w w' := by
  have e1 : IntKind.i64.wrap ((fr : Int) + n) = fr + n := i64_in (by omega) (by omega)
  by_cases t1 : N < fr
  · clear hN
    go_enter Try.func29, Try.ntmps29
    go_wp2
    exact bodyPost_ret (v := .tuple #[row a n cap fr room, .bool false]) (by simp [results, Try.results29, go_sem]) rfl ⟨rfl, ((Below.refl _ _).alloc (Nat.le_refl _) _).alloc (by simp) _⟩
  · have t2 : (fr : Int) + n < N := by omega
    clear hN
    go_enter Try.func29, Try.ntmps29
    go_wp2
    exact bodyPost_ret (v := .tuple #[row a n cap fr room, .bool false]) (by simp [results, Try.results29, go_sem]) rfl ⟨rfl, ((Below.refl _ _).alloc (Nat.le_refl _) _).alloc (by simp) _⟩

set_option maxHeartbeats 3200000 in
theorem cut_in (h : SkI w X a n cap f) (hX : ∀ k, X k → k < w.heap.size) (hn : n ≤ 1048576) (fr : Nat) (hfr : fr ≤ 1099511627776) (room : Int) (k : Nat) (hk : k ≤ n) (N : Int) (hN : N = fr + k) :
    Calls Try.prog 29 #[row a n cap fr room, .int .i64 N] w fun e w' => ∃ a' cap', e = .returned (.tuple #[row a' k cap' fr room, .bool true]) ∧ Out w X k f a' cap' w' := by
  obtain ⟨i0, hi0, hz0, hz1, hz2⟩ := info_parts info32
  have HH := hid h
  have HX := hid hX
  clear h hX
  obtain ⟨hA, hB, hS, hL⟩ := two_new w (.cells #[.slice a n cap, .int .i64 fr, .int .i64 room] 29) (.cells #[.slice none 0 0, .int .i64 0, .int .i64 0] 29)
  have HA := hid (alloc_block (o' := .cells #[] 21) hA)
  have HB := hid (alloc_block (o' := .cells #[] 21) hB)
  have HL := hid (hL.alloc (by omega) (.cells #[] 21))
  have HS := hid hS
  clear hA hB hL hS
  have e1 : IntKind.i64.wrap ((fr : Int) + n) = fr + n := i64_in (by omega) (by omega)
  have e2 : IntKind.i64.wrap (N - fr) = k := by rw [i64_in (by omega) (by omega)]; omega
  have t1 : ¬ N < fr := by omega
  have t2 : ¬ (fr : Int) + n < N := by omega
  have HN := hid hN
  clear hN
  go_enter Try.func29, Try.ntmps29
  go_wp2_with fail
  go_loopg [6, 7] k (fun q v iv wr => ∃ i : Nat, q = k - i ∧ i ≤ k ∧ iv = .int .i64 i ∧ Hid (wr.ownsRow (w.heap.size + 2) 21 1 v i (kv .i32 f i)) ∧ Hid (Below w.heap.size w wr) ∧ Hid (w.heap.size + 2 ≤ wr.heap.size) ∧ Hid (wr.heap[w.heap.size]? = some (.cells #[.slice a n cap, .int .i64 fr, .int .i64 room] 29 (0, 0))) ∧ Hid (wr.heap[w.heap.size + 1]? = some (.cells #[.slice none 0 0, .int .i64 0, .int .i64 0] 29 (0, 0))))
  case atStart => exact ⟨0, rfl, by omega, rfl, hid (own_empty (w.heap.size + 1 + 1) (by simp) (by simp)), HL, hid (by simp), HA, HB⟩
  case round =>
    obtain ⟨i, rfl, hik, rfl, O, BL, S, A, D⟩ := hrel
    obtain ⟨p0, p1, p2, _, _, _⟩ := cells_at A.out
    by_cases hlt : i < k
    · have h1 : (i : Int) < k := by omega
      have h1' : (i : Int) < n := by omega
      have h0 : (0 : Int) ≤ i := by omega
      have e3 : IntKind.i64.wrap ((i : Int) + 1) = i + 1 := i64_in (by omega) (by omega)
      obtain ⟨b, off, rfl, hbl, _, hc⟩ := HH.out.at' (by omega)
      have ci := hc i (by omega)
      rw [← BL.out.cell (p := ⟨b, off + i, none⟩) hbl] at ci
      clear hc hbl
      go_wp2_with (at_builtin; refine wpList_append_src rfl _ _ 27 rfl (w.heap.size + 2) 21 i0 _ 1 4 Try.underlying27 hi0 hz0 hz1 hz2 rfl (by omega) u6 i (kv .i32 f i) rfl (O.out.alloc _) (some ⟨wr.heap.size, 0, none⟩) 1 1 #[.int .i32 (f i)].toList rfl (Src.new (w := wr) #[.int .i32 (f i)] 21 wr.heap.size rfl rfl (by simp [Value.oneCell'])) (by unfold maxLen; omega) (by omega) (by have := S.out; simp; omega) ?_)
      intro v2 w2 ho2 hg2 ha2
      have hO := O.out.lt
      have B2 := hid ((BL.out.alloc BL.out.size (.cells #[.int .i32 (f i)] 21)).grown hg2 (by have := BL.out.size; simp; omega) (fun k hk => by have := (hO k hk).1; omega))
      have A2 := hid (kept_block hg2 (alloc_block (o' := .cells #[.int .i32 (f i)] 21) A.out) (fun e => by have := (hO _ e.symm).1; omega))
      have D2 := hid (kept_block hg2 (alloc_block (o' := .cells #[.int .i32 (f i)] 21) D.out) (fun e => by have := (hO _ e.symm).1; omega))
      have S2 := hid (show w.heap.size + 2 ≤ w2.heap.size by have h1 := hg2.size; have h2 := S.out; rw [show (wr.alloc (.cells #[.int .i32 (f i)] 21)).heap.size = wr.heap.size + 1 by simp] at h1; omega)
      rw [show kv .i32 f i ++ #[Value.int .i32 (f i)].toList = kv .i32 f (i + 1) from kv_snoc .i32 f i] at ho2
      have O2 := hid ho2
      clear ho2 hg2 ha2 hO
      go_wp2_with fail
      go_roundg (k - (i + 1))
      case measure => omega
      case rel => exact ⟨i + 1, rfl, by omega, by go_num, O2, B2, S2, A2, D2⟩
    · have h1 : ¬ (i : Int) < k := by omega
      obtain rfl : i = k := by omega
      obtain ⟨q0, q1, q2, f0, f1, f2⟩ := cells_at D.out
      obtain ⟨a', cap', rfl⟩ := own_slice O.out
      have out := hid (Out.stored (u0 := .slice a' i cap') (u1 := .int .i64 fr) (u2 := .int .i64 room) HX.out BL.out O.out)
      go_wp2_with fail
      exact bodyPost_ret (v := .tuple #[row a' i cap' fr room, .bool true]) (by simp [results, Try.results29, go_sem, q0, q1, q2]) rfl ⟨a', cap', rfl, out.out⟩
end
end Go.Proofs.Ytgjeiikjpacocaa.Rr
