/-
  Walk of a cache's Put.
-/
import Derived.Test.YtbcanfelfdalbaaCaPs
import Derived.Test.YtbcanfelfdalbaaShelf
import Derived.Deep.RegionHeld3
namespace Go.Proofs.Ytbcanfelfdalbaa
open Go.RowKit Go.Maps Ca
set_option linter.unusedVariables false
theorem strings_clone (w : World) (s : ByteArray) (hs : s.size ≤ 1000000) : Calls Try.prog 21 #[.string s] w fun e w' => e = .returned (.string s) ∧ Below w.heap.size w w' := by
  have hlim : s.size ≤ 281474976710656 := by omega
  go_enter Try.func21, Try.ntmps21
  go_wp2_with fail
  refine (Try.stringslite_Clone s w hlim).mono ?_
  rintro r w2 ⟨rfl, b2⟩
  have B2 := hid b2
  clear b2
  go_wp2_with fail
  go_ret
  exact ⟨rfl, B2.out⟩
/-- A row apart from what was turned. -/
theorem ir_mut {w w' : World} {a : Option Addr} {n c : Nat} {xs : Pr.Row} {S : Nat → Prop} (h : Ir w a n c xs) (hm : Mut S w w') (hA : ∀ b off, 0 < n → a = some ⟨b, off, none⟩ → ¬ S b) : Ir w' a n c xs :=
  ⟨h.len, h.le, h.mx, h.nil, fun hn => by
    obtain ⟨b, off, e, hlt, hc⟩ := h.at' hn
    exact ⟨b, off, e, Nat.lt_of_lt_of_le hlt hm.size, fun i hi => by rw [hm.cell hlt (hA b off hn e)]; exact hc i hi⟩⟩
section
variable {w w' : World} {B M g cap n room h m : Nat} {e : Nat → En} {p : List Nat} {S : Nat → Prop}
/-- Where another key is to stand. -/
theorem place_z (Z : Cz w B M g cap n room h m e p S) (hp : p.length ≤ room) (h0 : 0 < room) (hr : room ≤ 1048576) :
    Calls Try.prog 20 #[.pointer (some ⟨B, 0, none⟩)] w fun r w' => ∃ (a g2 cap2 n2 : Nat) (e1 : Nat → En) (ks : List (ByteArray × Nat)), r = .returned (.int .i64 (a : Int)) ∧ Cr w' B M g2 cap2 n2 room h m e1 ∧ Mp w' M ks ∧ PlWay w.heap.size room e e1 p g g2 cap cap2 n n2 a ks ∧ M ≠ g2 ∧ Mut (fun k => k = B ∨ k = M ∨ k = g) w w' ∧
      a < n2 ∧ n2 ≤ 2000000 ∧ (e1 a).o < n2 ∧ (e1 a).n < n2 ∧ (mid e1 a 0).o < n2 ∧ ks.length ≤ 2000000 ∧ (∀ x, x ∈ ks → x ∈ pk e p) ∧ (g2 = g ∨ w.heap.size ≤ g2) := by
  have hlen := Z.len
  by_cases hf : p.length = room
  · cases p with
    | nil => simp at hf; omega
    | cons a p1 =>
      obtain ⟨q1, q2, q3, q4⟩ := Z.bounds (a := a) (by simp) (e1 := e) (fun i => ⟨rfl, rfl⟩)
      have kd := List.pairwise_cons.1 Z.kd
      refine (place_full (a := a) (ks' := pk e p1) Z.cr Z.mp (by rw [← hf]; simp [pk]) (show (e 0).n = a from ci_first Z.ci) (by omega) q1 (Z.hd a (by simp)).2.2.2 Z.own.2.2.2.1 Z.own.2.2.2.2 ⟨a, pk_mem.2 ⟨by simp, rfl⟩⟩ (by simp [pk]) (fun x => ?_)).mono ?_
      · obtain ⟨s, i⟩ := x
        rw [pk_mem, pk_mem]
        constructor
        · rintro ⟨h1, h2⟩
          exact ⟨⟨List.mem_cons_of_mem _ h1, h2⟩, fun e2 => kd.1 i h1 (by rw [h2]; exact e2.symm)⟩
        · rintro ⟨⟨h1, h2⟩, h3⟩
          rcases List.mem_cons.1 h1 with h4 | h4
          · exact absurd (by rw [← h2, h4]) h3
          · exact ⟨h4, h2⟩
      · rintro r w' ⟨rfl, c, mm, mu⟩
        exact ⟨a, g, cap, n, e, _, rfl, c, mm, .inl ⟨p1, rfl, hf, rfl, rfl, rfl, rfl, rfl⟩, Z.own.2.2.2.2, mu.weak (fun b hb => .inr (.inl hb)), q1, by omega, q2, q3, q4, by simp [pk] at hf ⊢; omega, fun x hx => by simp [pk] at hx ⊢; exact .inr hx, .inl rfl⟩
  · have hl : (pk e p).length < room := by simp [pk]; omega
    have hn : 0 < n := by omega
    have hM := Z.mp.lt
    have hx := ext_new e n
    refine (place_new Z.cr Z.mp hl hr (by omega) Z.own.2.2.2.1 Z.own.2.2.2.2).mono ?_
    rintro r w' ⟨rfl, g', cap', c, mm, hg, mu⟩
    have b0 := Z.ci.on (n := n) Z.lt hn 0 (.inl rfl)
    refine ⟨n, g', cap', n + 1, ext e n, _, rfl, c, mm, .inr ⟨by omega, rfl, rfl, rfl, rfl, hg⟩, ?_, mu.weak (fun b hb => by rcases hb with h | h <;> simp [h]), Nat.lt_succ_self _, by omega, by omega, by omega, ?_, by simp [pk]; omega, fun x hx => hx, hg⟩
    · rcases hg with rfl | hg
      · exact Z.own.2.2.2.2
      · omega
    · rw [mid_o, hx.2, if_neg (by omega), ext_old hn]
      omega
/-- What the row's store leaves. -/
theorem tail_cr {w1 w2 : World} {a n' sc : Nat} {xs : Pr.Row} {sa : Option Addr} {T : Nat → Prop} (H : Cr w1 B M g cap n room h m e) (hm : Mut T w w1) (hT : ∀ k, k < w.heap.size → k = g → T k) (ha : a < n) (hb : Below w1.heap.size w1 w2) (o : w2.ownsRow w1.heap.size 3 1 (.slice sa n' sc) n' (iv xs)) :
    (w2.cell? ⟨B, 2, none⟩ = some (.slice (some ⟨g, 0, none⟩) n cap) ∧ w2.frozen? ⟨g, a * 4 + 1, none⟩ = false ∧ ∃ u, w2.cell? ⟨g, a * 4 + 1, none⟩ = some u) ∧
    Cr (w2.setCell ⟨g, a * 4 + 1, none⟩ (.slice sa n' sc)) B M g cap n room h m (sV e a (sa, n', sc) xs) ∧ Mut T w (w2.setCell ⟨g, a * 4 + 1, none⟩ (.slice sa n' sc)) ∧
    (w2.setCell ⟨g, a * 4 + 1, none⟩ (.slice sa n' sc)).ownsRow w.heap.size 3 1 (.slice sa n' sc) n' (iv xs) ∧ (sv (sa, n', sc)).ownBlock ≠ some g ∧ (w2.setCell ⟨g, a * 4 + 1, none⟩ (.slice sa n' sc)).cell? ⟨B, 2, none⟩ = some (.slice (some ⟨g, 0, none⟩) n cap) ∧ Mut (fun k => k = g) w1 (w2.setCell ⟨g, a * 4 + 1, none⟩ (.slice sa n' sc)) := by
  have H2 := H.below hb
  have hg := H.ltg
  have hne : (Value.slice sa n' sc).ownBlock ≠ some g := fun e => by
    have := (o.lt g e).1
    omega
  have m2 := Mut.set w2 g (a * 4 + 1) (.slice sa n' sc) (S := fun k => k = g) rfl
  exact ⟨⟨H2.cells.2.2.1, H2.fz _, H2.any (by omega)⟩, H2.set1 a (sa, n', sc) xs, hm.trans ((Mut.ofBelow hb _).trans m2 (fun _ _ e => e)) (fun k hk e => hT k hk e), own_base (own_mut o m2 (fun k hk e => hne (by rw [hk, e]))) hm.size, hne, (H2.set1 a (sa, n', sc) xs).cells.2.2.1, (Mut.ofBelow hb _).trans m2 (fun _ _ e => e)⟩
theorem bounds_sv {e1 : Nat → En} {a n2 : Nat} {v : Sv} {xs : Pr.Row} (h : (e1 a).o < n2 ∧ (e1 a).n < n2 ∧ (mid e1 a 0).o < n2) : (sV e1 a v xs a).o < n2 ∧ (sV e1 a v xs a).n < n2 ∧ (mid (sV e1 a v xs) a 0).o < n2 := by
  have h1 := sV_on e1 a v xs a
  have h2 := sV_on e1 a v xs 0
  refine ⟨by rw [h1.1]; exact h.1, by rw [h1.2]; exact h.2.1, ?_⟩
  have h3 := h.2.2
  rw [mid_o] at h3 ⊢
  rw [h1.1, h1.2, h2.1]
  exact h3
theorem bounds_sk {e1 : Nat → En} {a n2 : Nat} {k : ByteArray} (h : (e1 a).o < n2 ∧ (e1 a).n < n2 ∧ (mid e1 a 0).o < n2) : (sK e1 a k a).o < n2 ∧ (sK e1 a k a).n < n2 ∧ (mid (sK e1 a k) a 0).o < n2 := by
  have h1 := sK_on e1 a k a
  have h2 := sK_on e1 a k 0
  refine ⟨by rw [h1.1]; exact h.1, by rw [h1.2]; exact h.2.1, ?_⟩
  have h3 := h.2.2
  rw [mid_o] at h3 ⊢
  rw [h1.1, h1.2, h2.1]
  exact h3
set_option maxRecDepth 100000 in
set_option maxHeartbeats 3200000 in
theorem cput_z (Z : Cz w B M g cap n room h m e p S) (hp : p.length ≤ room) (hr : room ≤ 1048576) (k : ByteArray) (hk : k.size ≤ 1000000) {ra : Option Addr} {rn' rc : Nat} {xs : Pr.Row} (R : Ir w ra rn' rc xs) (hx : rn' ≤ 1000000) (hA : ∀ b off, 0 < rn' → ra = some ⟨b, off, none⟩ → ¬ S b) :
    Calls Try.prog 11 #[.pointer (some ⟨B, 0, none⟩), .string k, .slice ra rn' rc] w fun r w' => r = .returned (.tuple #[]) ∧ CzPut w B M room h m (pl e p) S (k, xs) w' := by
  by_cases h0 : room = 0
  · have k0 : (room : Int) = 0 := by omega
    have FN := hid (show CzPut w B M room h m (pl e p) S (k, xs) w from by
      have hp0 : p = [] := List.eq_nil_of_length_eq_zero (by omega)
      subst hp0 h0
      exact ⟨g, cap, n, e, [], S, Z, Nat.le_refl _, by simp [pl, Ca.put, young, wo], fun b hb => .inl hb, Mut.refl S w⟩)
    have ZZ := hid Z
    clear Z R hA
    go_enter Try.func11, Try.ntmps11
    go_wp2_with fail
    refine (croom_z ZZ.out).mono ?_
    rintro r w ⟨rfl, rfl⟩
    go_wp2_with fail
    refine bodyPost_ret (v := .tuple #[]) (by simp [results, Try.results11, go_sem]) rfl ?_
    exact ⟨rfl, FN.out⟩
  · have k0 : ¬ (room : Int) = 0 := by omega
    obtain ⟨-, c1, c2, -, -⟩ := Z.cr.cells
    obtain ⟨c, t, hrun, hc⟩ := Z.mp.look k (by unfold maxLen; omega)
    have HC := hid hc
    have ZZ := hid Z
    have RR := hid R
    have HA := hid (show ∀ b off, 0 < rn' → ra = some ⟨b, off, none⟩ → ¬ (b = B ∨ b = M ∨ b = g) from fun b off h1 h2 h3 => hA b off h1 h2 (Z.three h3))
    have HL := hid (show xs.length = rn' from R.len)
    have hnn : n ≤ 2000000 := by have := Z.len; omega
    clear Z R hc hA
    cases t
    · have HN := hid (show ∀ i, (k, i) ∉ pk e p from by
        rcases HC.out with ⟨h, _⟩ | ⟨_, h⟩
        · cases h
        · exact h)
      clear HC c2
      go_enter Try.func11, Try.ntmps11
      go_wp2_with fail
      refine (croom_z ZZ.out).mono ?_
      rintro r w ⟨rfl, rfl⟩
      go_wp2_with fail
      refine (place_z ZZ.out hp (by omega) hr).mono ?_
      rintro r w2 ⟨a, g2, cap2, n2, e1, ks, rfl, cr2, mp2, way, hMg, mu2, a1, a2, a3, a4, a5, a6, a7, a8⟩
      have C2 := hid cr2
      have P2 := hid mp2
      have M2 := hid mu2
      have WY := hid way
      have A3 := hid (And.intro a3 (And.intro a4 a5))
      have A7 := hid a7
      have A8 := hid a8
      clear cr2 mp2 mu2 way a3 a4 a5 a7 a8 c1 hrun
      go_wp2_with fail
      refine (strings_clone w2 k hk).mono ?_
      rintro r w3 ⟨rfl, b3⟩
      have C3 := hid (C2.out.below b3)
      have P3 := hid (P2.out.below b3)
      have M3 := hid (M2.out.trans (Mut.ofBelow b3 fun _ => False) (fun _ _ e => e.elim))
      clear b3 C2 P2 M2
      obtain ⟨w4, hput, mp4, mu4⟩ := P3.out.put k (by unfold maxLen; omega) a (by omega) (by omega) (fun j hj => HN.out j (A7.out _ hj))
      have C4 := hid (C3.out.mut mu4 (fun e => ZZ.out.own.2.2.2.1 e) (fun e => hMg e.symm))
      have M4 := hid (M3.out.trans mu4 (fun _ _ e => .inr (.inl e)))
      have c1 := C3.out.cells.2.1
      have c2 := C4.out.cells.2.2.1
      have f4 := C4.out.fz (a * 4)
      obtain ⟨u4, d4⟩ := C4.out.any (j := a * 4) (by omega)
      have m5 := Mut.set w4 g2 (a * 4) (.string k) (S := fun k => k = g2) rfl
      have C5 := hid (C4.out.set0 a k)
      have P5 := hid (mp4.mut m5 (fun e => hMg e))
      have M5 := hid (M4.out.trans m5 (fun b hb e => by
        rcases A8.out with h | h
        · exact .inr (.inr (e.trans h))
        · omega))
      obtain ⟨w5, hw5⟩ : ∃ W, w4.setCell ⟨g2, a * 4, none⟩ (.string k) = W := ⟨_, rfl⟩
      rw [hw5] at C5 P5 M5
      have R5 := hid (ir_mut RR.out M5.out HA.out)
      have k1 : (0 : Int) ≤ a := by omega
      have k2 : (a : Int) < n2 := by omega
      have c5 := C5.out.cells.2.2.1
      have hne := C5.out.ne
      have HT := hid (show ∀ k, k < w.heap.size → k = g2 → k = B ∨ k = M ∨ k = g from fun k h1 h2 => by
        rcases A8.out with h | h
        · exact .inr (.inr (h2.trans h))
        · omega)
      clear mp4 mu4 m5 C3 P3 M3 C4 M4 RR HA
      go_wp2_with fail
      go_region_held3 (fun w' => w'.cell? ⟨B, 2, none⟩ = some (.slice (some ⟨g2, 0, none⟩) n2 cap2)) (first | with_reducible exact c5 | with_reducible exact N6.out | with_reducible exact T6.out.2.2.2.2.2.1 | go_keep) (first | (go_at_call 22; refine (clone_calls (w := w5) R5.out hx).mono ?_; rintro r w6 ⟨⟨v6, rfl, o6⟩, b6⟩; obtain ⟨sa, sc, rfl, _⟩ := Ir.ofOwn o6; have T6 := hid (tail_cr C5.out M5.out HT.out a1 b6 o6); have P7 := hid (P5.out.mut T6.out.2.2.2.2.2.2 (fun e => hMg e)); have N6 := hid T6.out.1.1; obtain ⟨-, f6, u6, d6⟩ := T6.out.1; clear o6 b6) | (go_at_call 22; refine (clone_calls (w := w5.drew) (R5.out.below (Below.refl _ _).drew) hx).mono ?_; rintro r w6 ⟨⟨v6, rfl, o6⟩, b6⟩; obtain ⟨sa, sc, rfl, _⟩ := Ir.ofOwn o6; have T6 := hid (tail_cr C5.out.drew M5.out.drew HT.out a1 b6 o6); have P7 := hid ((P5.out.below (Below.refl _ _).drew).mut T6.out.2.2.2.2.2.2 (fun e => hMg e)); have N6 := hid T6.out.1.1; obtain ⟨-, f6, u6, d6⟩ := T6.out.1; clear o6 b6))
      obtain ⟨-, t2, t3, t4, t5, -⟩ := T6.out
      have C7 := hid t2
      have M7 := hid t3
      have O7 := hid t4
      have V7 := hid t5
      clear t2 t3 t4 t5 T6 N6 f6 d6 C5 P5 M5 R5 c5
      generalize (w6.setCell ⟨g2, a * 4 + 1, none⟩ (.slice sa rn' sc)) = w7 at *
      obtain ⟨b1, b2, b3⟩ := bounds_sv (v := (sa, rn', sc)) (xs := xs) (bounds_sk (k := k) A3.out)
      go_wp2_with fail
      refine (renew_calls C7.out a1 b1 b2 b3 a2).mono ?_
      rintro r w8 ⟨rfl, cr8, mu8⟩
      have FN := hid (put_else ZZ.out WY.out HN.out hk (by rw [HL.out]; exact hx) cr8 (P7.out.mut mu8 (fun e => hMg e)) (M7.out.trans mu8 (fun b hb e => HT.out b hb e)) (by rw [HL.out]; exact own_mut O7.out mu8 (fun b hb e => V7.out (by rw [← e]; exact hb))) V7.out hMg)
      clear cr8 mu8 C7 M7 O7 V7 P7
      go_wp2_with fail
      go_end0
      exact ⟨rfl, FN.out⟩
    · obtain ⟨a, rfl, ha⟩ : ∃ a : Nat, c = a ∧ (k, a) ∈ pk e p := by
        rcases HC.out with ⟨_, h⟩ | ⟨h, _⟩
        · exact h
        · cases h
      obtain ⟨ha1, ha2⟩ := pk_mem.1 ha
      have HA1 := hid ha1
      have HA2 := hid ha2
      obtain ⟨a1, a3⟩ := ZZ.out.bounds ha1 (e1 := e) (fun i => ⟨rfl, rfl⟩)
      have A3 := hid a3
      have k1 : (0 : Int) ≤ a := by omega
      have k2 : (a : Int) < n := by omega
      have hne := ZZ.out.cr.ne
      have hMg := ZZ.out.own.2.2.2.2
      have HT := hid (show ∀ k, k < w.heap.size → k = g → k = B ∨ k = M ∨ k = g from fun k h1 h2 => .inr (.inr h2))
      clear HC ha ha1 ha2 a3 HA
      go_enter Try.func11, Try.ntmps11
      go_wp2_with fail
      refine (croom_z ZZ.out).mono ?_
      rintro r w ⟨rfl, rfl⟩
      go_wp2_with fail
      go_region_held3 (fun w' => w'.cell? ⟨B, 2, none⟩ = some (.slice (some ⟨g, 0, none⟩) n cap)) (first | with_reducible exact c2 | with_reducible exact N6.out | with_reducible exact T6.out.2.2.2.2.2.1 | go_keep) (first | (go_at_call 22; refine (clone_calls (w := w) RR.out hx).mono ?_; rintro r w6 ⟨⟨v6, rfl, o6⟩, b6⟩; obtain ⟨sa, sc, rfl, _⟩ := Ir.ofOwn o6; have T6 := hid (tail_cr ZZ.out.cr (Mut.refl (fun k => k = B ∨ k = M ∨ k = g) w) HT.out a1 b6 o6); have P7 := hid (ZZ.out.mp.mut T6.out.2.2.2.2.2.2 (fun e => hMg e)); have N6 := hid T6.out.1.1; obtain ⟨-, f6, u6, d6⟩ := T6.out.1; clear o6 b6) | (go_at_call 22; refine (clone_calls (w := w.drew) (RR.out.below (Below.refl _ _).drew) hx).mono ?_; rintro r w6 ⟨⟨v6, rfl, o6⟩, b6⟩; obtain ⟨sa, sc, rfl, _⟩ := Ir.ofOwn o6; have T6 := hid (tail_cr ZZ.out.cr.drew (Mut.refl (fun k => k = B ∨ k = M ∨ k = g) w).drew HT.out a1 b6 o6); have P7 := hid ((ZZ.out.mp.below (Below.refl _ _).drew).mut T6.out.2.2.2.2.2.2 (fun e => hMg e)); have N6 := hid T6.out.1.1; obtain ⟨-, f6, u6, d6⟩ := T6.out.1; clear o6 b6))
      obtain ⟨-, t2, t3, t4, t5, -⟩ := T6.out
      have C7 := hid t2
      have M7 := hid t3
      have O7 := hid t4
      have V7 := hid t5
      clear t2 t3 t4 t5 T6 N6 f6 d6 RR c2 c1 hrun
      generalize (w6.setCell ⟨g, a * 4 + 1, none⟩ (.slice sa rn' sc)) = w7 at *
      obtain ⟨b1, b2, b3⟩ := bounds_sv (v := (sa, rn', sc)) (xs := xs) A3.out
      go_wp2_with fail
      refine (renew_calls C7.out a1 b1 b2 b3 hnn).mono ?_
      rintro r w8 ⟨rfl, cr8, mu8⟩
      have FN := hid (put_there ZZ.out HA1.out HA2.out hk (by rw [HL.out]; exact hx) cr8 (P7.out.mut mu8 (fun e => hMg e)) (M7.out.trans mu8 (fun b hb e => HT.out b hb e)) (by rw [HL.out]; exact own_mut O7.out mu8 (fun b hb e => V7.out (by rw [← e]; exact hb))) hp)
      clear cr8 mu8 C7 M7 O7 V7 P7
      go_wp2_with fail
      go_end0
      exact ⟨rfl, FN.out⟩
end
end Go.Proofs.Ytbcanfelfdalbaa
