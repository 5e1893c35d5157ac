/-
  Walk of vocab.tokensOf.
-/
import Derived.Test.YtjpboackbjfenaaVcS1
namespace Go.Proofs.Ytjpboackbjfenaa
open Go.RowKit
set_option linter.unusedVariables false

theorem Try.infoSt : (Try.prog.info? 9).map (fun i => (i.zero, i.size, i.bytes)) = some (some (.string ⟨#[]⟩), 1, 16) := by kernel_rfl

theorem Ts.ofVr {w : World} {b n : Nat} {e : TypeId} {g : Nat → ByteArray} (h : Vr w b n e (fun i => .string (g i))) (hn : n ≤ maxLen) : Ts w (some ⟨b, 0, none⟩) n n ((List.range n).map g) :=
  ⟨by simp, Nat.le_refl _, hn, fun e => absurd e (by simp), fun _ => ⟨b, 0, rfl, h.lt, fun i hi => by
    rw [Nat.zero_add, h.cell hi]
    simp [at_, hi]⟩⟩

/-- Whatever lies there lies at or above a place. -/
def Hi (N : Nat) (a : Option Addr) : Prop := ∀ b off sp, a = some ⟨b, off, sp⟩ → N ≤ b
theorem hi_none (N : Nat) : Hi N none := fun _ _ _ h => by cases h
theorem hi_some {N b off : Nat} (h : N ≤ b) : Hi N (some ⟨b, off, none⟩) := fun _ _ _ e => by cases e; exact h
theorem Hi.mono {N M : Nat} {a : Option Addr} (h : Hi N a) (k : M ≤ N) : Hi M a := fun b off sp e => Nat.le_trans k (h b off sp e)
theorem Ts.mut {w w' : World} {a : Option Addr} {n c : Nat} {ts : List ByteArray} {S : Nat → Prop} {N : Nat} (h : Ts w a n c ts) (hm : Mut S w w') (hh : Hi N a) (hS : ∀ i, N ≤ i → ¬ S i) : Ts w' a n c ts :=
  ⟨h.len, h.le, h.mx, h.nil, fun hn => by
    obtain ⟨b, off, rfl, hlt, hc⟩ := h.at' hn
    have hb := hm.block b hlt (hS b (hh _ _ _ rfl))
    exact ⟨b, off, rfl, Nat.lt_of_lt_of_le hlt hm.size, fun i hi => by rw [← hc i hi]; simp [World.cell?, hb]⟩⟩
theorem Rw.mut {w w' : World} {a : Option Addr} {n c : Nat} {ts : List (ByteArray × Int)} {S : Nat → Prop} {N : Nat} (h : Rw w a n c ts) (hm : Mut S w w') (hh : Hi N a) (hS : ∀ i, N ≤ i → ¬ S i) : Rw w' a n c ts :=
  ⟨h.len, h.le, h.mx, h.nil, fun hn => by
    obtain ⟨b, off, rfl, hlt, hc⟩ := h.at' hn
    have hb := hm.block b hlt (hS b (hh _ _ _ rfl))
    refine ⟨b, off, rfl, Nat.lt_of_lt_of_le hlt hm.size, fun i hi => ?_⟩
    obtain ⟨c0, c1⟩ := hc i hi
    exact ⟨by rw [← c0]; simp [World.cell?, hb], by rw [← c1]; simp [World.cell?, hb]⟩⟩
theorem Qw.mut {w w' : World} {a : Option Addr} {n c : Nat} {ts : List Mg4} {S : Nat → Prop} {N : Nat} (h : Qw w a n c ts) (hm : Mut S w w') (hh : Hi N a) (hS : ∀ i, N ≤ i → ¬ S i) : Qw w' a n c ts :=
  ⟨h.len, h.le, h.mx, h.nil, fun hn => by
    obtain ⟨b, off, rfl, hlt, hc⟩ := h.at' hn
    have hb := hm.block b hlt (hS b (hh _ _ _ rfl))
    refine ⟨b, off, rfl, Nat.lt_of_lt_of_le hlt hm.size, fun i hi => ?_⟩
    obtain ⟨c0, c1, c2, c3⟩ := hc i hi
    exact ⟨by rw [← c0]; simp [World.cell?, hb], by rw [← c1]; simp [World.cell?, hb], by rw [← c2]; simp [World.cell?, hb], by rw [← c3]; simp [World.cell?, hb]⟩⟩
theorem mut_three (W : World) (R : Nat) (x y z : Value) {S : Nat → Prop} (h : S R) : Mut S W (three W R x y z) :=
  ((Mut.set W R 0 x h).trans (Mut.set _ R 1 y h) (fun _ _ e => e)).trans (Mut.set _ R 2 z h) (fun _ _ e => e)
theorem hi_own {w : World} {base n c k m : Nat} {e : TypeId} {a : Option Addr} {xs : List Value} (h : w.ownsRow base e k (.slice a n c) m xs) : Hi base a := by
  obtain ⟨_, h⟩ := h
  rcases h with ⟨h1, h2⟩ | ⟨g2, cap2, cur, h1, hb, _⟩
  · cases h1; exact hi_none _
  · cases h1; exact hi_some hb

/-- What tokensOf answers. -/
def TkOut (M : Nat) (rs sp : Vc.Sps) (e : Ending) (w' : World) : Prop :=
  (Vc.Ranks rs sp ∧ ∃ ts b, M ≤ b ∧ Vc.TokIs rs sp ts ∧ e = .returned (.tuple #[.slice (some ⟨b, 0, none⟩) ts.length ts.length, .bool true]) ∧ Ts w' (some ⟨b, 0, none⟩) ts.length ts.length ts) ∨
  (¬ Vc.Ranks rs sp ∧ e = .returned (.tuple #[.slice none 0 0, .bool false]))

set_option maxRecDepth 100000 in
set_option maxHeartbeats 3200000 in
theorem tokensOf_calls {w : World} {a az : Option Addr} {n c ns cs : Nat} {rs sp : Vc.Sps} (V : Rw w a n c rs) (Q : Rw w az ns cs sp) :
    Calls Try.prog 54 #[.slice a n c, .slice az ns cs] w fun e w' => TkOut w.heap.size rs sp e w' ∧ Below w.heap.size w w' := by
  have hl := V.len
  have hls := Q.len
  have hx : n ≤ 9223372036854775807 := by have := V.le; have := V.mx; unfold maxLen at this; omega
  have TW := hid V
  have QW := hid Q
  clear V Q
  obtain ⟨i0, hi0, hz0, hz1, hz2⟩ := info_parts Try.infoBl
  obtain ⟨j0, gi0, gz0, gz1, gz2⟩ := info_parts Try.infoSt
  go_enter Try.func54, Try.ntmps54
  go_wp2_with fail
  refine (sizeOf_calls TW.out QW.out).mono ?_
  rintro e w1 ⟨E1, b1⟩
  have B1 := hid b1
  clear b1
  rcases E1 with ⟨hr, hs, N, hS, hN, rfl⟩ | ⟨hno, rfl⟩
  · have HR := hid hr
    have HS := hid hs
    have HZ := hid hS
    clear hr hs hS
    obtain ⟨K, hK⟩ : ∃ K, w1.heap.size = K := ⟨_, rfl⟩
    have hKw := B1.out.size
    rw [hK] at hKw
    go_wp2_with (first | (refine wpList_make_vr (by rfl) _ _ 22 rfl (.string ⟨#[]⟩) 9 _ Try.underlying22 gi0 gz0 rfl gz1 (by omega) N (by omega) rfl rfl ?_; intro w2 R2 b2 z2; rw [hK] at R2 b2 z2; have B2 := hid (B1.out.trans (b2.out.mono hKw)); clear b2) | (refine wpList_make_vr (by rfl) _ _ 77 rfl (.bool false) 4 _ Try.underlying77 hi0 hz0 rfl hz1 (by omega) N (by omega) rfl rfl ?_; intro w3 R3 b3 z3; have z2e : w2.heap.size = K + 1 := z2.out; rw [z2e] at R3 b3 z3; have R4 := hid (R2.out.below b3.out (by omega)); have B3 := hid (B2.out.trans (b3.out.mono (by omega))); clear b3 B2 R2))
    go_loopg [26] n (fun r iv wr => ∃ (j : Nat) (g : Nat → ByteArray) (h : Nat → Bool), r = n - j ∧ iv = .int .i64 (j : Int) ∧ j ≤ n ∧ Hid (Vr wr K N 9 (fun i => .string (g i))) ∧ Hid (Vr wr (K + 1) N 4 (fun i => .bool (h i))) ∧ Hid (∀ k : Nat, h k = true ↔ ∃ i, i < j ∧ kat rs i = (k : Int)) ∧ Hid (∀ i, i < j → g (kat rs i).toNat = tat rs i) ∧ Hid (∀ k, h k = false → g k = ⟨#[]⟩) ∧ Hid (∀ i k, i < k → k < j → kat rs i ≠ kat rs k) ∧ Hid (Below w.heap.size w wr))
    case atStart => exact ⟨0, fun _ => ⟨#[]⟩, fun _ => false, rfl, rfl, by omega, R4, R3, hid (fun k => ⟨fun h => by simp at h, fun ⟨i, hi, _⟩ => by omega⟩), hid (fun i hi => by omega), hid (fun k _ => rfl), hid (fun i k _ hk => by omega), B3⟩
    case round =>
      obtain ⟨j, g, h, rfl, rfl, hj, HG, HH, HI, HT, HE, HP, HB⟩ := hrel
      by_cases hlt : j < n
      · have l0 : (0 : Int) ≤ j := by omega
        have l1 : (j : Int) < n := by omega
        have l2 : IntKind.i64.wrap ((j : Int) + 1) = j + 1 := i64_in (by omega) (by omega)
        obtain ⟨b, off, rfl, hbl, hc⟩ := (TW.out.below HB.out).at' (by omega)
        obtain ⟨q1, q2⟩ := hc j hlt
        have hnum := HR.out j (by omega)
        have htop := HZ.out.r j (by omega)
        obtain ⟨t, ht⟩ : ∃ t, tat rs j = t := ⟨_, rfl⟩
        obtain ⟨q, hq1⟩ : ∃ q : Nat, kat rs j = (q : Int) := ⟨(kat rs j).toNat, by have := hnum.1; omega⟩
        rw [ht] at q1
        rw [hq1] at q2 hnum htop
        have hq : q < N := by omega
        have i0' : (0 : Int) ≤ q := by omega
        have i1' : (q : Int) < N := by omega
        have HX := hid hq1
        have HTt := hid ht
        clear hc ht hq1 hnum htop
        have cq := HH.out.cell hq
        have fq := HH.out.fr q
        have ct := HG.out.cell hq
        have ft := HG.out.fr q
        have hlg := HG.out.lt
        have hlh := HH.out.lt
        obtain ⟨v, hv⟩ : ∃ v, h q = v := ⟨_, rfl⟩
        rw [hv] at cq
        have HV := hid hv
        clear hv
        have cq2 := cell_alloc cq (.cells #[.string t, .int .i64 (q : Int)] 32)
        have ct2 := cell_alloc ct (.cells #[.string t, .int .i64 (q : Int)] 32)
        cases v
        · go_wp2_with fail
          go_roundg (n - (j + 1))
          case measure => omega
          case rel =>
            refine ⟨j + 1, fun i => if i = q then t else g i, fun i => if i = q then true else h i, rfl, by go_num, by omega, hid ((((HG.out.other (by omega) _).set q (.string t)).alloc _).congr (fun i hi => ?_)), hid ((((HH.out.set q (.bool true)).other (by omega) _).alloc _).congr (fun i hi => ?_)), hid (fun k => ?_), hid (fun i hi => ?_), hid (fun k hk => ?_), hid (fun i k hik hk => ?_), hid (((HB.out.setCell (by simp; omega) _).setCell (by simp; omega) _).alloc (by have := HB.out.size; simp; omega) _)⟩
            · simp only [upd]
              split <;> rfl
            · simp only [upd]
              split <;> rfl
            · show (if k = q then true else h k) = true ↔ _
              by_cases hk : k = q
              · rw [if_pos hk]
                exact ⟨fun _ => ⟨j, by omega, by rw [HX.out, hk]⟩, fun _ => rfl⟩
              · rw [if_neg hk, HI.out k]
                constructor
                · rintro ⟨i, hi, he⟩
                  exact ⟨i, by omega, he⟩
                · rintro ⟨i, hi, he⟩
                  by_cases hij : i < j
                  · exact ⟨i, hij, he⟩
                  · obtain rfl : i = j := by omega
                    rw [HX.out] at he
                    exact absurd (Int.ofNat.inj he).symm hk
            · show (if (kat rs i).toNat = q then t else g (kat rs i).toNat) = tat rs i
              by_cases hij : i < j
              · have hne : (kat rs i).toNat ≠ q := fun e => by
                  have h0 := (HR.out i (by omega)).1
                  have h2 := (HI.out q).2 ⟨i, hij, by omega⟩
                  rw [HV.out] at h2
                  cases h2
                rw [if_neg hne]
                exact HT.out i hij
              · obtain rfl : i = j := by omega
                rw [HX.out, if_pos (by simp), HTt.out]
            · have hk' : (if k = q then true else h k) = false := hk
              by_cases hkq : k = q
              · rw [if_pos hkq] at hk'; cases hk'
              · rw [if_neg hkq] at hk'
                show (if k = q then t else g k) = _
                rw [if_neg hkq]
                exact HE.out k hk'
            · by_cases hkj : k < j
              · exact HP.out i k hik hkj
              · obtain rfl : k = j := by omega
                rw [HX.out]
                intro he
                have h2 := (HI.out q).2 ⟨i, hik, he⟩
                rw [HV.out] at h2
                cases h2
        · have HN := hid (show ¬ Vc.Ranks rs sp from fun hk => by
            obtain ⟨i, hi, he⟩ := (HI.out q).1 HV.out
            exact hk.ap i j hi (by omega) (by rw [he, HX.out]))
          have BB := hid (HB.out.alloc HB.out.size (.cells #[.string t, .int .i64 (q : Int)] 32))
          go_wp2_with fail
          go_ret2
          exact ⟨.inr ⟨HN.out, rfl⟩, BB.out⟩
      · have k1 : ¬ ((j : Int) < n) := by omega
        have HRk := hid (show Vc.Ranks rs sp from ⟨HR.out, HS.out, fun i k hik hk => HP.out i k hik (by omega)⟩)
        have HTs := hid (Ts.ofVr HG.out (by unfold maxLen; omega))
        have HTk := hid (show Vc.TokIs rs sp ((List.range N).map g) from ⟨by simpa using HZ.out, fun i hi => by
            have h0 := (HR.out i hi).1
            have h1 := HZ.out.r i hi
            have : (kat rs i).toNat < N := by omega
            simpa [at_, this] using HT.out i (by omega), fun k hk hno => by
            have hk' : k < N := by simpa using hk
            have hf : h k = false := by
              cases hc : h k
              · rfl
              · obtain ⟨i, hi, he⟩ := (HI.out k).1 hc
                exact absurd he (hno i (by omega))
            simpa [at_, hk'] using HE.out k hf⟩)
        have hlen : ((List.range N).map g).length = N := by simp
        have HL := hid hlen
        clear hlen
        go_wp2_with fail
        go_ret2
        exact ⟨.inl ⟨HRk.out, _, K, hKw, HTk.out, by rw [HL.out]; rfl, by rw [HL.out]; exact HTs.out⟩, HB.out⟩
  · have HN := hid (show ¬ Vc.Ranks rs sp from fun h => hno ⟨h.r, h.s⟩)
    clear hno
    go_wp2_with fail
    go_ret2
    exact ⟨.inr ⟨HN.out, rfl⟩, B1.out⟩
end Go.Proofs.Ytjpboackbjfenaa
