/-
  Walk of place: where another key is to stand.
-/
import Derived.Test.YtbcanfelfdalbaaCaG
namespace Go.Proofs.Ytbcanfelfdalbaa
open Go.RowKit Go.Maps Ca
set_option linter.unusedVariables false
section
variable {w w' : World} {B M g cap n room h m : Nat} {e : Nat → En} {ks ks' : List (ByteArray × Nat)}
set_option maxRecDepth 100000 in
set_option maxHeartbeats 1600000 in
theorem place_full (H : Cr w B M g cap n room h m e) (K : Mp w M ks) (hl : ks.length = room) {a : Nat} (ha : (e 0).n = a) (h0 : 0 < n) (han : a < n) (hs : (e a).k.size ≤ 1000000) (hMB : B ≠ M) (hMg : M ≠ g)
    (hin : ∃ k, ((e a).k, k) ∈ ks) (hks : ks'.length + 1 = ks.length) (hk : ∀ x, x ∈ ks' ↔ x ∈ ks ∧ x.1 ≠ (e a).k) :
    Calls Try.prog 20 #[.pointer (some ⟨B, 0, none⟩)] w fun r w' => r = .returned (.int .i64 (a : Int)) ∧ Cr w' B M g cap n room h m e ∧ Mp w' M ks' ∧ Mut (fun k => k = M) w w' := by
  obtain ⟨c0, c1, c2, -, -⟩ := H.cells
  have hlen : (Builtin.len_ #[50] 3 #[.map (some M)]).run Try.prog w.drew = .ok (.int .i64 (room : Int)) w.drew := by
    have := (K.below (Below.refl _ _).drew).len 3
    rwa [hl] at this
  have HH := hid H
  have HK := hid K
  have HI := hid hin
  have HX := hid hk
  clear H K hin hk
  go_enter Try.func20, Try.ntmps20
  go_wp2_with fail
  go_region
  have bq := (Below.refl w.heap.size w).drew
  have H1 := hid (HH.out.below bq)
  have K1 := hid (HK.out.below bq)
  have M1 := hid ((Mut.refl (fun k => k = M) w).drew)
  clear HH HK c0 c1 c2 hlen bq
  generalize w.drew = w1 at *
  obtain ⟨-, c1, c2, -, -⟩ := H1.out.cells
  have p3 := (H1.out.cell h0).2.2.2
  rw [ha] at p3
  have p0 := (H1.out.cell han).1
  obtain ⟨s, hse⟩ : ∃ s, (e a).k = s := ⟨_, rfl⟩
  rw [hse] at p0 hs HI HX
  have k0 : (0 : Int) < n := by omega
  have k1 : (0 : Int) ≤ a := by omega
  have k2 : (a : Int) < n := by omega
  obtain ⟨w2, hdel, K2, M2⟩ := Mp.del (w := w1.drew) (K1.out.below (Below.refl _ _).drew) s (by unfold maxLen; omega) HI.out hks HX.out 0
  have H2 := hid ((H1.out.drew).mut M2 (fun e => hMB e) (fun e => hMg e.symm))
  have K2 := hid K2
  have M2 := hid ((M1.out.trans ((Mut.refl (fun k => k = M) w1).drew) (fun _ _ e => e)).trans M2 (fun _ _ e => e))
  clear H1 K1 M1 HI HX
  go_wp2_with fail
  go_region
  go_wp2_with fail
  go_ret
  exact ⟨rfl, H2.out, K2.out, M2.out⟩
/-- An entry beside itself, behind the others. -/
def ext (e : Nat → En) (n : Nat) : Nat → En := fun j => if j < n then e j else ⟨⟨#[]⟩, (none, 0, 0), [], n, n⟩
theorem own_pos {w : World} {b n z : Nat} {t : TypeId} {v : Value} {xs : List Value} (h : w.ownsRow b t z v n xs) (hn : 0 < n) : ∃ g cap, v = .slice (some ⟨g, 0, none⟩) n cap := by
  rcases h.2 with ⟨_, h0⟩ | ⟨g, cap, cur, hv, _⟩
  · omega
  · exact ⟨g, cap, hv⟩
theorem place_fin {w1 w4 : World} {g' cap' : Nat} {o : Obj} (H : Cr w1 B M g cap n room h m e) (K : Mp w1 M ks) (hMB : B ≠ M) (hMg : M ≠ g) (hO : w4.ownsRow 0 57 4 (.slice (some ⟨g', 0, none⟩) (n + 1) cap') (n + 1) (ke e n ++ [.string ⟨#[]⟩, .slice none 0 0, .int .i64 (n : Int), .int .i64 (n : Int)]))
    (hG : (w1.alloc o).grownBy w4 (some g)) (hb : g' = g ∨ g' = (w1.alloc o).heap.size) :
    (w4.cell? ⟨B, 2, none⟩ = some (.slice (some ⟨g, 0, none⟩) n cap) ∧ w4.frozen? ⟨B, 2, none⟩ = false) ∧
    Cr (w4.setCell ⟨B, 2, none⟩ (.slice (some ⟨g', 0, none⟩) (n + 1) cap')) B M g' cap' (n + 1) room h m (ext e n) ∧ Mp (w4.setCell ⟨B, 2, none⟩ (.slice (some ⟨g', 0, none⟩) (n + 1) cap')) M ks ∧ (g' = g ∨ w1.heap.size ≤ g') ∧ Mut (fun k => k = B ∨ k = g) w1 (w4.setCell ⟨B, 2, none⟩ (.slice (some ⟨g', 0, none⟩) (n + 1) cap')) := by
  have s1 : w1.heap.size ≤ (w1.alloc o).heap.size := by simp
  have m4 : Mut (fun k => k = g) w1 w4 := (Mut.ofBelow ((Below.refl w1.heap.size w1).alloc (Nat.le_refl _) o) _).grown hG (fun k e => by cases e; rfl)
  have b4 : w4.heap[B]? = _ := (m4.block B H.lt H.ne).trans H.blk
  have hB := H.lt
  have hM := K.lt
  have neB : B ≠ g' := hb.elim (fun h => by rw [h]; exact H.ne) (fun h => by omega)
  have m5 : Mut (fun k => k = B) w4 (w4.setCell ⟨B, 2, none⟩ (.slice (some ⟨g', 0, none⟩) (n + 1) cap')) := Mut.set w4 B 2 _ rfl
  refine ⟨⟨by simp [World.cell?, b4], by simp [World.frozen?, b4]⟩, ⟨by rw [heap_setCell_same w4 B 2 _ _ _ b4]; rfl, ?_, neB⟩, (K.mut m4 hMg).mut m5 (fun e => hMB e.symm), hb.imp id (fun h => by omega), (m4.weak (fun k e => .inr e)).trans (m5.weak (fun k e => .inl e)) (fun _ _ e => e)⟩
  have := own_set (B := B) (j := 2) hO (fun e => neB (by cases e; rfl)) (.slice (some ⟨g', 0, none⟩) (n + 1) cap')
  rw [show ke e n ++ [.string ⟨#[]⟩, .slice none 0 0, .int .i64 (n : Int), .int .i64 (n : Int)] = ke (ext e n) (n + 1) from ke_snoc e n ⟨⟨#[]⟩, (none, 0, 0), [], n, n⟩] at this
  exact this
set_option maxRecDepth 100000 in
set_option maxHeartbeats 3200000 in
theorem place_new (H : Cr w B M g cap n room h m e) (K : Mp w M ks) (hl : ks.length < room) (hr : room ≤ 1048576) (hn : n ≤ 2000000) (hMB : B ≠ M) (hMg : M ≠ g) :
    Calls Try.prog 20 #[.pointer (some ⟨B, 0, none⟩)] w fun r w' => r = .returned (.int .i64 (n : Int)) ∧ ∃ g' cap', Cr w' B M g' cap' (n + 1) room h m (ext e n) ∧ Mp w' M ks ∧ (g' = g ∨ w.heap.size ≤ g') ∧ Mut (fun k => k = B ∨ k = g) w w' := by
  obtain ⟨i0, hi, hz0, hz1, hz2⟩ := info_parts Try.infoCe
  obtain ⟨c0, c1, c2, -, -⟩ := H.cells
  have hlen : (Builtin.len_ #[50] 3 #[.map (some M)]).run Try.prog w.drew = .ok (.int .i64 (ks.length : Int)) w.drew := (K.below (Below.refl _ _).drew).len 3
  have H1 := hid H.drew
  have K1 := hid (K.below (Below.refl _ _).drew)
  have M1 := hid ((Mut.refl (fun k => k = B ∨ k = g) w).drew)
  have k0 : ¬ (ks.length : Int) = room := by omega
  clear H K
  go_enter Try.func20, Try.ntmps20
  go_wp2_with fail
  go_region
  clear c0 c1 c2 hlen k0
  generalize w.drew = w1 at *
  obtain ⟨-, -, c2, -, -⟩ := H1.out.cells
  go_wp2_with (at_builtin; refine wpList_append_src rfl _ _ 51 rfl 0 57 i0 _ 4 56 Try.underlying51 hi hz0 hz1 hz2 rfl (by decide) (.slice (some ⟨g, 0, none⟩) n cap) n (ke e n) rfl (H1.out.row.alloc _) (some ⟨w1.heap.size, 0, none⟩) 1 1 [.string ⟨#[]⟩, .slice none 0 0, .int .i64 (n : Int), .int .i64 (n : Int)] rfl (Src.new #[.string ⟨#[]⟩, .slice none 0 0, .int .i64 (n : Int), .int .i64 (n : Int)] 57 w1.heap.size rfl rfl (fun u hu => by simp at hu; rcases hu with rfl | rfl | rfl | rfl <;> rfl)) (by unfold maxLen; omega) (by omega) (Nat.zero_le _) ?_; intro v4 w4 ho4 hg4 hb4; obtain ⟨g', cap', rfl⟩ := own_pos ho4 (by omega); have P4 := hid (place_fin H1.out K1.out hMB hMg ho4 hg4 (hb4.imp (fun h => Option.some.inj h) (fun h => Option.some.inj h))); clear ho4 hg4 hb4 c2; obtain ⟨d2, f2⟩ := P4.out.1)
  go_ret
  obtain ⟨-, p2, p3, p4, p5⟩ := P4.out
  exact ⟨rfl, g', cap', p2, p3, p4.imp id (fun h => Nat.le_trans M1.out.size h), M1.out.trans p5 (fun _ _ e => e)⟩
end
end Go.Proofs.Ytbcanfelfdalbaa
