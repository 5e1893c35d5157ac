/-
  Several texts in one: VcSp, VcS1, VcS2, VcIns, VrW1, VrW2, VrW3.
-/
import Derived.Test.YtcjakjmhghoilaaLotV
import Derived.Test.YtcjakjmhghoilaaLotW
/-
  Rows as what is appended; what the dump says of specials.
-/
namespace Go.Proofs.Ytcjakjmhghoilaa
open Go.RowKit
set_option linter.unusedVariables false

theorem Rw.src {w : World} {a : Option Addr} {n cap : Nat} {xs : List (ByteArray × Int)} (h : Rw w a n cap xs) : Src w a n cap 2 (rv xs) :=
  ⟨by rw [rv_length, h.len], rv_one xs, h.nil, fun ad ha j u hu => by
    obtain ⟨i, hi, hc⟩ := rv_inv hu
    have hn : i < n := by rw [← h.len]; exact hi
    obtain ⟨b, off, hab, _, hcell⟩ := h.at' (by omega)
    rw [ha] at hab
    cases hab
    rw [Addr.add_lit]
    rcases hc with ⟨rfl, rfl⟩ | ⟨rfl, rfl⟩
    · exact (hcell i hn).1
    · have := (hcell i hn).2
      rwa [Nat.add_assoc] at this⟩

theorem Try.infoSp : (Try.prog.info? 73).map (fun i => (i.zero, i.size, i.bytes)) = some (some (.agg #[.string ⟨#[]⟩, .int .i64 0]), 2, 24) := by kernel_rfl
theorem nlt_ntrans {a b c : ByteArray} (h : ¬ Vc.NLt a b) (k : ¬ Vc.NLt b c) : ¬ Vc.NLt a c := by
  intro hac
  by_cases hba : Vc.NLt b a
  · exact k (nlt_trans hba hac)
  · obtain rfl := Vc.nlt_total h hba
    exact k hac
theorem ahead_ntrans {a b c : Mg4} (h : ¬ Vc.Ahead a b) (k : ¬ Vc.Ahead b c) : ¬ Vc.Ahead a c := by unfold Vc.Ahead at *; omega
theorem Try.infoMg : (Try.prog.info? 50).map (fun i => (i.zero, i.size, i.bytes)) = some (some (.agg #[.int .i64 0, .int .i64 0, .int .i64 0, .int .i64 0]), 4, 32) := by kernel_rfl
end Go.Proofs.Ytcjakjmhghoilaa

/-
  Walks of vocab.sizeOf, vocab.tokensOf.
-/
namespace Go.Proofs.Ytcjakjmhghoilaa
open Go.RowKit
set_option linter.unusedVariables false

/-- What sizeOf answers. -/
def SzOut (rs sp : Vc.Sps) (e : Ending) : Prop :=
  ((∀ i, i < rs.length → Vc.Num (kat rs i)) ∧ (∀ i, i < sp.length → Vc.Num (kat sp i)) ∧ ∃ N : Nat, Vc.Sz rs sp N ∧ N ≤ 4096 ∧ e = .returned (.tuple #[.int .i64 (N : Int), .bool true])) ∨
  ((¬ ((∀ i, i < rs.length → Vc.Num (kat rs i)) ∧ (∀ i, i < sp.length → Vc.Num (kat sp i)))) ∧ e = .returned (.tuple #[.int .i64 0, .bool false]))

theorem max_up {N : Nat} {x : Int} (h : Vc.Num x) : ∃ N' : Nat, N ≤ N' ∧ x + 1 ≤ (N' : Int) ∧ ((N' = N) ∨ (N' : Int) = x + 1) ∧ (if (N : Int) < x + 1 then x + 1 else (N : Int)) = (N' : Int) ∧ max (N : Int) (x + 1) = (N' : Int) ∧ (N ≤ 4096 → N' ≤ 4096) := by
  obtain ⟨h0, h1⟩ := h
  by_cases hc : (N : Int) < x + 1
  · exact ⟨(x + 1).toNat, by omega, by omega, by omega, by rw [if_pos hc]; omega, by omega, by omega⟩
  · exact ⟨N, by omega, by omega, by omega, by rw [if_neg hc], by omega, fun h => h⟩

end Go.Proofs.Ytcjakjmhghoilaa

/-
  Walk of vocab.tokensOf.
-/
namespace Go.Proofs.Ytcjakjmhghoilaa
open Go.RowKit
set_option linter.unusedVariables false

theorem Try.infoSt : (Try.prog.info? 9).map (fun i => (i.zero, i.size, i.bytes)) = some (some (.string ⟨#[]⟩), 1, 16) := by kernel_rfl

theorem Ts.ofVr {w : World} {b n : Nat} {e : TypeId} {g : Nat → ByteArray} (h : Vr w b n e (fun i => .string (g i))) (hn : n ≤ maxLen) : Ts w (some ⟨b, 0, none⟩) n n ((List.range n).map g) :=
  ⟨by simp, Nat.le_refl _, hn, fun e => absurd e (by simp), fun _ => ⟨b, 0, rfl, h.lt, fun i hi => by
    rw [Nat.zero_add, h.cell hi]
    simp [at_, hi]⟩⟩

/-- Whatever lies there lies at or above a place. -/
def Hi (N : Nat) (a : Option Addr) : Prop := ∀ b off sp, a = some ⟨b, off, sp⟩ → N ≤ b
theorem hi_none (N : Nat) : Hi N none := fun _ _ _ h => by cases h
theorem hi_some {N b off : Nat} (h : N ≤ b) : Hi N (some ⟨b, off, none⟩) := fun _ _ _ e => by cases e; exact h
theorem Hi.mono {N M : Nat} {a : Option Addr} (h : Hi N a) (k : M ≤ N) : Hi M a := fun b off sp e => Nat.le_trans k (h b off sp e)
theorem Ts.mut {w w' : World} {a : Option Addr} {n c : Nat} {ts : List ByteArray} {S : Nat → Prop} {N : Nat} (h : Ts w a n c ts) (hm : Mut S w w') (hh : Hi N a) (hS : ∀ i, N ≤ i → ¬ S i) : Ts w' a n c ts :=
  ⟨h.len, h.le, h.mx, h.nil, fun hn => by
    obtain ⟨b, off, rfl, hlt, hc⟩ := h.at' hn
    have hb := hm.block b hlt (hS b (hh _ _ _ rfl))
    exact ⟨b, off, rfl, Nat.lt_of_lt_of_le hlt hm.size, fun i hi => by rw [← hc i hi]; simp [World.cell?, hb]⟩⟩
theorem Rw.mut {w w' : World} {a : Option Addr} {n c : Nat} {ts : List (ByteArray × Int)} {S : Nat → Prop} {N : Nat} (h : Rw w a n c ts) (hm : Mut S w w') (hh : Hi N a) (hS : ∀ i, N ≤ i → ¬ S i) : Rw w' a n c ts :=
  ⟨h.len, h.le, h.mx, h.nil, fun hn => by
    obtain ⟨b, off, rfl, hlt, hc⟩ := h.at' hn
    have hb := hm.block b hlt (hS b (hh _ _ _ rfl))
    refine ⟨b, off, rfl, Nat.lt_of_lt_of_le hlt hm.size, fun i hi => ?_⟩
    obtain ⟨c0, c1⟩ := hc i hi
    exact ⟨by rw [← c0]; simp [World.cell?, hb], by rw [← c1]; simp [World.cell?, hb]⟩⟩
theorem Qw.mut {w w' : World} {a : Option Addr} {n c : Nat} {ts : List Mg4} {S : Nat → Prop} {N : Nat} (h : Qw w a n c ts) (hm : Mut S w w') (hh : Hi N a) (hS : ∀ i, N ≤ i → ¬ S i) : Qw w' a n c ts :=
  ⟨h.len, h.le, h.mx, h.nil, fun hn => by
    obtain ⟨b, off, rfl, hlt, hc⟩ := h.at' hn
    have hb := hm.block b hlt (hS b (hh _ _ _ rfl))
    refine ⟨b, off, rfl, Nat.lt_of_lt_of_le hlt hm.size, fun i hi => ?_⟩
    obtain ⟨c0, c1, c2, c3⟩ := hc i hi
    exact ⟨by rw [← c0]; simp [World.cell?, hb], by rw [← c1]; simp [World.cell?, hb], by rw [← c2]; simp [World.cell?, hb], by rw [← c3]; simp [World.cell?, hb]⟩⟩
theorem mut_three (W : World) (R : Nat) (x y z : Value) {S : Nat → Prop} (h : S R) : Mut S W (three W R x y z) :=
  ((Mut.set W R 0 x h).trans (Mut.set _ R 1 y h) (fun _ _ e => e)).trans (Mut.set _ R 2 z h) (fun _ _ e => e)
theorem hi_own {w : World} {base n c k m : Nat} {e : TypeId} {a : Option Addr} {xs : List Value} (h : w.ownsRow base e k (.slice a n c) m xs) : Hi base a := by
  obtain ⟨_, h⟩ := h
  rcases h with ⟨h1, h2⟩ | ⟨g2, cap2, cur, h1, hb, _⟩
  · cases h1; exact hi_none _
  · cases h1; exact hi_some hb

/-- What tokensOf answers. -/
def TkOut (M : Nat) (rs sp : Vc.Sps) (e : Ending) (w' : World) : Prop :=
  (Vc.Ranks rs sp ∧ ∃ ts b, M ≤ b ∧ Vc.TokIs rs sp ts ∧ e = .returned (.tuple #[.slice (some ⟨b, 0, none⟩) ts.length ts.length, .bool true]) ∧ Ts w' (some ⟨b, 0, none⟩) ts.length ts.length ts) ∨
  (¬ Vc.Ranks rs sp ∧ e = .returned (.tuple #[.slice none 0 0, .bool false]))

end Go.Proofs.Ytcjakjmhghoilaa

/-
  Rows into which a thing is put at its place.
-/
namespace Go.Proofs.Ytcjakjmhghoilaa
open Go.RowKit Go.Maps
set_option linter.unusedVariables false

theorem ins_sorted {α : Type} (lt : α → α → Prop) {xs : List α} {x : α} {k : Nat} (h : xs.Pairwise (fun a b => ¬ lt b a)) (h1 : ∀ a ∈ xs.take k, ¬ lt x a) (h2 : ∀ b ∈ xs.drop k, ¬ lt b x) : (xs.take k ++ x :: xs.drop k).Pairwise (fun a b => ¬ lt b a) := by
  rw [← List.take_append_drop k xs, List.pairwise_append] at h
  obtain ⟨p1, p2, p3⟩ := h
  rw [List.pairwise_append, List.pairwise_cons]
  refine ⟨p1, ⟨h2, p2⟩, fun a ha b hb => ?_⟩
  rcases List.mem_cons.1 hb with rfl | hb
  · exact h1 a ha
  · exact p3 a ha b hb
theorem ins_perm {α : Type} (xs : List α) (x : α) (k : Nat) : (xs.take k ++ x :: xs.drop k).Perm (x :: xs) := by
  refine List.perm_middle.trans ?_
  rw [List.take_append_drop]
/-- A special put among others, behind those of its name. -/
def Vc.InsS (sp : Vc.Sps) (x : ByteArray × Int) (out : Vc.Sps) : Prop :=
  ∃ k, k ≤ sp.length ∧ out = sp.take k ++ x :: sp.drop k ∧ (∀ i, i < k → ¬ Vc.NLt x.1 (tat sp i)) ∧ (k < sp.length → Vc.NLt x.1 (tat sp k))
theorem Vc.InsS.perm {sp : Vc.Sps} {x : ByteArray × Int} {out : Vc.Sps} (h : Vc.InsS sp x out) : out.Perm (x :: sp) := by
  obtain ⟨k, _, rfl, _⟩ := h
  exact ins_perm sp x k
theorem Vc.InsS.up {sp : Vc.Sps} {x : ByteArray × Int} {out : Vc.Sps} (h : Vc.InsS sp x out) (hs : sp.Pairwise (fun a b => ¬ Vc.NLt b.1 a.1)) : out.Pairwise (fun a b => ¬ Vc.NLt b.1 a.1) := by
  obtain ⟨k, hk, rfl, h1, h2⟩ := h
  refine ins_sorted (fun a b : ByteArray × Int => Vc.NLt a.1 b.1) hs (fun a ha => ?_) (fun b hb => ?_)
  · obtain ⟨i, hi, rfl⟩ := List.mem_iff_getElem.1 ha
    have hi' : i < k := by rw [List.length_take] at hi; omega
    have h3 := h1 i hi'
    have e : ((sp.take k)[i]).1 = tat sp i := by simp [tat, show i < sp.length by omega]
    show ¬ Vc.NLt x.1 ((sp.take k)[i]).1
    rw [e]
    exact h3
  · obtain ⟨i, hi, rfl⟩ := List.mem_iff_getElem.1 hb
    rw [List.length_drop] at hi
    have h3 := h2 (by omega)
    have e : ((sp.drop k)[i]).1 = tat sp (k + i) := by simp [tat, show k + i < sp.length by omega]
    show ¬ Vc.NLt ((sp.drop k)[i]).1 x.1
    rw [e]
    intro h5
    by_cases h0 : i = 0
    · subst h0; exact Vc.nlt_irrefl _ (nlt_trans h3 h5)
    · have h4 := (List.pairwise_iff_getElem.1 hs) k (k + i) (by omega) (by omega) (by omega)
      have e1 : (sp[k]).1 = tat sp k := by simp [tat, show k < sp.length by omega]
      have e2 : (sp[k + i]).1 = tat sp (k + i) := by simp [tat, show k + i < sp.length by omega]
      rw [e1, e2] at h4
      exact h4 (nlt_trans h5 h3)
theorem rw_drop {w : World} {b off n cap : Nat} {xs : Vc.Sps} (h : Rw w (some ⟨b, off, none⟩) n cap xs) (k : Nat) (hk : k ≤ n) : Rw w (some ⟨b, off + k * 2, none⟩) (n - k) (cap - k) (xs.drop k) :=
  ⟨by rw [List.length_drop, h.len], by have := h.le; omega, by have := h.mx; omega, fun e => absurd e (by simp), fun h0 => by
    obtain ⟨b', off', e, hlt, hc⟩ := h.at' (by omega)
    cases e
    refine ⟨b, off + k * 2, rfl, hlt, fun i hi => ?_⟩
    have q := hc (k + i) (by omega)
    have e1 : tat (xs.drop k) i = tat xs (k + i) := by simp [tat, List.getD_eq_getElem?_getD]
    have e3 : kat (xs.drop k) i = kat xs (k + i) := by simp [kat, List.getD_eq_getElem?_getD]
    have e2 : off + (k + i) * 2 = off + k * 2 + i * 2 := by omega
    rw [e1, e3, ← e2]
    exact q⟩

theorem own_at {w : World} {base n k : Nat} {e : TypeId} {v : Value} {xs : List Value} (h : w.ownsRow base e k v n xs) : ∀ q, v.ownBlock = some q → base ≤ q := fun q hq => by
  obtain ⟨_, ho⟩ := h
  rcases ho with ⟨h1, _⟩ | ⟨g, cap, cur, h1, hb, _⟩
  · rw [h1] at hq; simp [Value.ownBlock] at hq
  · rw [h1] at hq; simp [Value.ownBlock] at hq; omega
theorem own_addr {w : World} {base n m c k : Nat} {e : TypeId} {a : Option Addr} {xs : List Value} (h : w.ownsRow base e k (.slice a n c) m xs) : a = none ∨ ∃ b off, a = some ⟨b, off, none⟩ := by
  obtain ⟨_, ho⟩ := h
  rcases ho with ⟨h1, _⟩ | ⟨g, cap, cur, h1, hb, _⟩
  · cases h1; exact .inl rfl
  · cases h1; exact .inr ⟨_, _, rfl⟩
theorem Vo.mut {w w' : World} {a : Option Addr} {n c : Nat} {am : Option Addr} {nm cm : Nat} {az : Option Addr} {ns cs : Nat} {ts : List ByteArray} {ms : List Mg4} {sp : List (ByteArray × Int)} {S : Nat → Prop} {N : Nat} (h : Vo w a n c am nm cm az ns cs ts ms sp) (hm : Mut S w w') (h1 : Hi N a) (h2 : Hi N am) (h3 : Hi N az) (hS : ∀ i, N ≤ i → ¬ S i) : Vo w' a n c am nm cm az ns cs ts ms sp :=
  ⟨h.T.mut hm h1 hS, h.M.mut hm h2 hS, h.S.mut hm h3 hS⟩

/-- What base answers. -/
def BsOut (M : Nat) (rs sp : Vc.Sps) (e : Ending) (w' : World) : Prop :=
  (Vc.Ranks rs sp ∧ ∃ ts sp' b az ns cs t, (M ≤ b ∧ Hi M az) ∧ Vc.TokIs rs sp ts ∧ (t = true ↔ Vc.MayT ts) ∧ Vc.SpIs sp sp' ∧ e = .returned (.tuple #[.agg #[.slice (some ⟨b, 0, none⟩) ts.length ts.length, .slice none 0 0, .slice az ns cs], .bool t]) ∧ Ts w' (some ⟨b, 0, none⟩) ts.length ts.length ts ∧ Rw w' az ns cs sp') ∨
  (¬ Vc.Ranks rs sp ∧ e = .returned (.tuple #[.agg #[.slice none 0 0, .slice none 0 0, .slice none 0 0], .bool false]))

theorem bl_leq (s t : ByteArray) : (Op.bytesLess s.toList t.toList || s.toList == t.toList) = true ↔ ¬ Vc.NLt t s := by
  rw [Bool.or_eq_true, bl_iff, beq_iff_eq]
  constructor
  · rintro (h | h)
    · exact fun k => Vc.nlt_irrefl _ (nlt_trans h k)
    · rw [ba_eq h]; exact Vc.nlt_irrefl _
  · intro h
    by_cases k : Vc.NLt s t
    · exact .inl k
    · exact .inr (by rw [Vc.nlt_total k h])
end Go.Proofs.Ytcjakjmhghoilaa

/-
  Walks of the reference's Of, is, ahead, MayName, Great.
-/
namespace Go.Proofs.Ytcjakjmhghoilaa
open Go.RowKit
set_option linter.unusedVariables false

theorem says_is {P : Program} {f : FuncId} {args : Array Value} {w : World} {p : Prop} {b : Bool} {Q : World → Prop} (h : Calls P f args w fun e w' => Says e p ∧ Q w') (hb : b = true ↔ p) : Calls P f args w fun e w' => e = .returned (.bool b) ∧ Q w' :=
  h.mono fun e w' ⟨⟨t, h1, h2⟩, h3⟩ => ⟨by
    have : t = b := by
      cases t <;> cases b <;> simp_all
    rw [h1, this], h3⟩

set_option maxHeartbeats 1600000 in
theorem rof_calls {w : World} {a : Option Addr} {n c : Nat} {ts : Vc.Toks} (V : Ts w a n c ts) (s : ByteArray) :
    Calls Try.prog 18 #[.slice a n c, .string s] w fun e w' => (∃ r, e = .returned (.int .i64 r) ∧ Vc.OfIs ts s r) ∧ w' = w := by
  have hl := V.len
  have hx : n ≤ 9223372036854775807 := by have := V.le; have := V.mx; unfold maxLen at this; omega
  have T0 := hid V
  clear V
  by_cases hz : s.size = 0
  · have e1 := (ba_empty hz).1
    have e2 := (ba_empty hz).2
    have HZ := hid hz
    clear hz
    go_enter Try.func18, Try.ntmps18
    go_wp2_with fail
    go_ret
    exact ⟨⟨_, rfl, .inl ⟨HZ.out, rfl⟩⟩, rfl⟩
  have e1 := (ba_full hz).1
  have e2 := (ba_full hz).2
  have HZ := hid hz
  clear hz
  go_enter Try.func18, Try.ntmps18
  go_wp2_with fail
  go_loopg [10] n (fun r iv wr => ∃ j : Nat, r = n - j ∧ j ≤ n ∧ iv = .int .i64 j ∧ Hid (∀ i, i < j → at_ ts i ≠ s) ∧ w = wr)
  case atStart => exact ⟨0, rfl, by omega, rfl, hid (fun i hi => by omega), rfl⟩
  case round =>
    obtain ⟨j, rfl, hj, rfl, HA, rfl⟩ := hrel
    by_cases hlt : j < n
    · have l0 : (0 : Int) ≤ j := by omega
      have l1 : (j : Int) < n := by omega
      have l2 : IntKind.i64.wrap ((j : Int) + 1) = j + 1 := i64_in (by omega) (by omega)
      obtain ⟨b, off, rfl, hbl, hc⟩ := T0.out.at' (by omega)
      have q1 := hc j hlt
      obtain ⟨t, ht⟩ : ∃ t, at_ ts j = t := ⟨_, rfl⟩
      rw [ht] at q1
      have HT := hid ht
      clear hc ht
      by_cases hs : t = s
      · subst hs
        go_wp2_with fail
        go_ret
        exact ⟨⟨_, rfl, .inr ⟨HZ.out, .inl ⟨j, rfl, by omega, HT.out, HA.out⟩⟩⟩, rfl⟩
      · have e1 : ¬ t.toList = s.toList := fun h => hs (ba_eq h)
        have e2 : (t.toList == s.toList) = false := beq_eq_false_iff_ne.mpr e1
        go_wp2_with fail
        go_roundg (n - (j + 1))
        case measure => omega
        case rel => exact ⟨j + 1, rfl, by omega, by go_num, hid (fun i hi => by
          by_cases h : i < j
          · exact HA.out i h
          · obtain rfl : i = j := by omega
            rw [HT.out]; exact hs), rfl⟩
    · have l1 : ¬ (j : Int) < n := by omega
      go_wp2_with fail
      go_ret
      exact ⟨⟨_, rfl, .inr ⟨HZ.out, .inr ⟨rfl, fun i hi => HA.out i (by omega)⟩⟩⟩, rfl⟩

set_option maxHeartbeats 800000 in
theorem ris_calls {w : World} {a : Option Addr} {n c : Nat} {ts : Vc.Toks} (V : Ts w a n c ts) (k : Int) :
    Calls Try.prog 42 #[.slice a n c, .int .i64 k] w fun e w' => Says e (Vc.Is ts k) ∧ w' = w := by
  have hl := V.len
  have T0 := hid V
  clear V
  by_cases h0 : 0 ≤ k
  · by_cases h1 : k < n
    · obtain ⟨j, rfl⟩ : ∃ j : Nat, k = j := ⟨k.toNat, by omega⟩
      have hj : j < n := by omega
      obtain ⟨b, off, rfl, hbl, hc⟩ := T0.out.at' (by omega)
      have q1 := hc j hj
      obtain ⟨t, ht⟩ : ∃ t, at_ ts j = t := ⟨_, rfl⟩
      rw [ht] at q1
      have HT := hid ht
      clear hc ht
      by_cases hz : t.size = 0
      · have e1 := (ba_empty hz).1
        have e2 := (ba_empty hz).2
        have HN := hid (show ¬ Vc.Is ts j from fun h => h.2.2 (by rw [Int.toNat_natCast, HT.out]; exact hz))
        clear hz
        go_enter Try.func42, Try.ntmps42
        go_wp2_with fail
        go_ret
        exact ⟨Says.no HN.out, rfl⟩
      · have e1 := (ba_full hz).1
        have e2 := (ba_full hz).2
        have HN := hid (show Vc.Is ts j from ⟨by omega, by omega, by rw [Int.toNat_natCast, HT.out]; exact hz⟩)
        clear hz
        go_enter Try.func42, Try.ntmps42
        go_wp2_with fail
        go_ret
        exact ⟨Says.yes HN.out, rfl⟩
    · have d1 : decide (k < (n : Int)) = false := decide_eq_false h1
      have HN := hid (show ¬ Vc.Is ts k from fun h => by have := h.2.1; omega)
      go_enter Try.func42, Try.ntmps42
      go_wp2_with fail
      go_ret
      exact ⟨Says.no HN.out, rfl⟩
  · have d1 : decide ((0 : Int) ≤ k) = false := decide_eq_false h0
    have HN := hid (show ¬ Vc.Is ts k from fun h => by have := h.1; omega)
    go_enter Try.func42, Try.ntmps42
    go_wp2_with fail
    go_ret
    exact ⟨Says.no HN.out, rfl⟩

set_option maxHeartbeats 1600000 in
theorem rahead_calls (l1 r1 o1 d1 l2 r2 o2 d2 : Int) (w : World) :
    Calls Try.prog 43 #[.agg #[.int .i64 l1, .int .i64 r1, .int .i64 o1, .int .i64 d1], .agg #[.int .i64 l2, .int .i64 r2, .int .i64 o2, .int .i64 d2]] w fun e w' => Says e (Vc.Ahead (l1, r1, o1, d1) (l2, r2, o2, d2)) ∧ Below w.heap.size w w' := by
  have B0 := hid (((Below.refl w.heap.size w).alloc (Nat.le_refl _) (.cells #[.int .i64 l1, .int .i64 r1, .int .i64 o1, .int .i64 d1] 50)).alloc (by simp) (.cells #[.int .i64 l2, .int .i64 r2, .int .i64 o2, .int .i64 d2] 50))
  have HI := hid (show Vc.Ahead (l1, r1, o1, d1) (l2, r2, o2, d2) ↔ (d1 < d2 ∨ (d1 = d2 ∧ (l1 < l2 ∨ (l1 = l2 ∧ r1 < r2)))) from Iff.rfl)
  by_cases h1 : d1 = d2
  · subst h1
    by_cases h2 : l1 = l2
    · subst h2
      by_cases h3 : r1 < r2
      · have HN := hid (HI.out.2 (.inr ⟨rfl, .inr ⟨rfl, h3⟩⟩))
        go_enter Try.func43, Try.ntmps43
        go_wp2_with fail
        go_ret
        exact ⟨Says.yes HN.out, B0.out⟩
      · have q : decide (r1 < r2) = false := decide_eq_false h3
        have HN := hid (show ¬ Vc.Ahead (l1, r1, o1, d1) (l1, r2, o2, d1) from fun h => by have := HI.out.1 h; omega)
        go_enter Try.func43, Try.ntmps43
        go_wp2_with fail
        go_ret
        exact ⟨Says.no HN.out, B0.out⟩
    · have q2 : (l1 == l2) = false := by simpa using h2
      by_cases h3 : l1 < l2
      · have HN := hid (HI.out.2 (.inr ⟨rfl, .inl h3⟩))
        go_enter Try.func43, Try.ntmps43
        go_wp2_with fail
        go_ret
        exact ⟨Says.yes HN.out, B0.out⟩
      · have q : decide (l1 < l2) = false := decide_eq_false h3
        have HN := hid (show ¬ Vc.Ahead (l1, r1, o1, d1) (l2, r2, o2, d1) from fun h => by have := HI.out.1 h; omega)
        go_enter Try.func43, Try.ntmps43
        go_wp2_with fail
        go_ret
        exact ⟨Says.no HN.out, B0.out⟩
  · have q2 : (d1 == d2) = false := by simpa using h1
    by_cases h3 : d1 < d2
    · have HN := hid (HI.out.2 (.inl h3))
      go_enter Try.func43, Try.ntmps43
      go_wp2_with fail
      go_ret
      exact ⟨Says.yes HN.out, B0.out⟩
    · have q : decide (d1 < d2) = false := decide_eq_false h3
      have HN := hid (show ¬ Vc.Ahead (l1, r1, o1, d1) (l2, r2, o2, d2) from fun h => by have := HI.out.1 h; omega)
      go_enter Try.func43, Try.ntmps43
      go_wp2_with fail
      go_ret
      exact ⟨Says.no HN.out, B0.out⟩

/-- How a sign may be, or not. -/
theorem sign_ways (k : Int) : (Vc.SignOk k ∧ ((97 ≤ k ∧ k ≤ 122) ∨ (¬ 97 ≤ k ∧ 48 ≤ k ∧ k ≤ 57) ∨ k = 95)) ∨ (¬ Vc.SignOk k ∧ k ≠ 95 ∧ ((97 ≤ k ∧ ¬ k ≤ 122 ∧ 48 ≤ k ∧ ¬ k ≤ 57) ∨ (¬ 97 ≤ k ∧ 48 ≤ k ∧ ¬ k ≤ 57) ∨ (¬ 97 ≤ k ∧ ¬ 48 ≤ k))) := by
  unfold Vc.SignOk; omega

set_option maxHeartbeats 3200000 in
theorem rmayName_calls (s : ByteArray) (w : World) (hs : s.size ≤ 1000000) : Calls Try.prog 44 #[.string s] w fun e w' => Says e (Vc.NameOk s) ∧ w' = w := by
  obtain ⟨hsz, hget, hbd⟩ := St.any s
  obtain ⟨n, hn⟩ : ∃ n, s.size = n := ⟨_, rfl⟩
  obtain ⟨f, hf⟩ : ∃ f, bytesF s = f := ⟨_, rfl⟩
  have HK := hid (show Vc.NameOk s ↔ (1 ≤ n ∧ n ≤ 24 ∧ ∀ i, i < n → Vc.SignOk (f i)) by unfold Vc.NameOk; rw [hn, hf])
  rw [hf] at hget
  rw [hn] at hs
  clear hbd hf hsz
  go_enter Try.func44, Try.ntmps44
  go_wp2_with fail
  go_loopg [3] n (fun r iv wr => ∃ j : Nat, r = n - j ∧ j ≤ n ∧ iv = .int .i64 j ∧ Hid (∀ i, i < j → Vc.SignOk (f i)) ∧ w = wr)
  case atStart => exact ⟨0, rfl, by omega, rfl, hid (fun i hi => by omega), rfl⟩
  case round =>
    obtain ⟨j, rfl, hj, rfl, HA, rfl⟩ := hrel
    by_cases hlt : j < n
    · have l0 : (0 : Int) ≤ j := by omega
      have l1 : (j : Int) < n := by omega
      have l2 : IntKind.i64.wrap ((j : Int) + 1) = j + 1 := i64_in (by omega) (by omega)
      rcases sign_ways (f j) with ⟨hok, hw⟩ | ⟨hok, hne, hw⟩
      · have HY := hid hok
        have HR := hid (show ∀ i, i < j + 1 → Vc.SignOk (f i) from fun i hi => by
          by_cases h : i < j
          · exact HA.out i h
          · obtain rfl : i = j := by omega
            exact hok)
        clear hok HY
        rcases hw with ⟨a1, a2⟩ | ⟨a1, a2, a3⟩ | a1
        · go_wp2_with fail
          go_roundg (n - (j + 1))
          case measure => omega
          case rel => exact ⟨j + 1, rfl, by omega, by go_num, HR, rfl⟩
        · have d1 : decide ((97 : Int) ≤ f j) = false := decide_eq_false a1
          go_wp2_with fail
          go_roundg (n - (j + 1))
          case measure => omega
          case rel => exact ⟨j + 1, rfl, by omega, by go_num, HR, rfl⟩
        · go_wp2_with fail
          go_roundg (n - (j + 1))
          case measure => omega
          case rel => exact ⟨j + 1, rfl, by omega, by go_num, HR, rfl⟩
      · have HN := hid (show ¬ Vc.NameOk s from fun h => hok ((HK.out.1 h).2.2 j hlt))
        have d5 : (f j == 95) = false := by simpa using hne
        clear hok
        rcases hw with ⟨a1, a2, a3, a4⟩ | ⟨a1, a2, a3⟩ | ⟨a1, a2⟩
        · have d2 : decide (f j ≤ (122 : Int)) = false := decide_eq_false a2
          have d3 : decide (f j ≤ (57 : Int)) = false := decide_eq_false a4
          go_wp2_with fail
          go_ret
          exact ⟨Says.no HN.out, rfl⟩
        · have d2 : decide ((97 : Int) ≤ f j) = false := decide_eq_false a1
          have d3 : decide (f j ≤ (57 : Int)) = false := decide_eq_false a3
          go_wp2_with fail
          go_ret
          exact ⟨Says.no HN.out, rfl⟩
        · have d2 : decide ((97 : Int) ≤ f j) = false := decide_eq_false a1
          have d3 : decide ((48 : Int) ≤ f j) = false := decide_eq_false a2
          go_wp2_with fail
          go_ret
          exact ⟨Says.no HN.out, rfl⟩
    · have l1 : ¬ (j : Int) < n := by omega
      by_cases h1 : (1 : Int) ≤ n
      · by_cases h24 : (n : Int) ≤ 24
        · have HN := hid (show Vc.NameOk s from HK.out.2 ⟨by omega, by omega, fun i hi => HA.out i (by omega)⟩)
          go_wp2_with fail
          go_ret
          exact ⟨Says.yes HN.out, rfl⟩
        · have d1 : decide ((n : Int) ≤ 24) = false := decide_eq_false h24
          have HN := hid (show ¬ Vc.NameOk s from fun h => by have := (HK.out.1 h).2.1; omega)
          go_wp2_with fail
          go_ret
          exact ⟨Says.no HN.out, rfl⟩
      · have d1 : decide ((1 : Int) ≤ n) = false := decide_eq_false h1
        have HN := hid (show ¬ Vc.NameOk s from fun h => by have := (HK.out.1 h).1; omega)
        go_wp2_with fail
        go_ret
        exact ⟨Says.no HN.out, rfl⟩

/-- No more than is gone through. -/
structure Vc.Small (ts : Vc.Toks) (ms : List Mg4) (sp : Vc.Sps) : Prop where
  t : ts.length ≤ 400
  m : ms.length ≤ 300
  s : sp.length ≤ 20
  tz : ∀ i, i < ts.length → (at_ ts i).size ≤ 80
  sz : ∀ i, i < sp.length → (tat sp i).size ≤ 40

set_option maxRecDepth 100000 in
set_option maxHeartbeats 3200000 in
theorem rgreat_calls {w : World} {a am az : Option Addr} {n c nm cm ns cs : Nat} {ts : Vc.Toks} {ms : List Mg4} {sp : Vc.Sps} (V : Vo w a n c am nm cm az ns cs ts ms sp) :
    Calls Try.prog 16 #[.agg #[.slice a n c, .slice am nm cm, .slice az ns cs]] w fun e w' => Says e (¬ Vc.Small ts ms sp) ∧ Below w.heap.size w w' := by
  have hl := V.T.len
  have hlm := V.M.len
  have hls := V.S.len
  have B0 := hid ((Below.refl w.heap.size w).alloc (Nat.le_refl _) (.cells #[.slice a n c, .slice am nm cm, .slice az ns cs] 26))
  have X0 := hid (Bx3.new w 26 (.slice a n c) (.slice am nm cm) (.slice az ns cs))
  have V0 := hid (V.below B0.out)
  clear V
  have x0 := X0.out.cell0
  have x1 := X0.out.cell1
  have x2 := X0.out.cell2
  by_cases g1 : (400 : Int) < n
  · have HN := hid (show ¬ Vc.Small ts ms sp from fun h => by have := h.t; omega)
    go_enter Try.func16, Try.ntmps16
    go_wp2_with fail
    go_ret
    exact ⟨Says.yes HN.out, B0.out⟩
  have d1 : decide ((400 : Int) < n) = false := decide_eq_false g1
  by_cases g2 : (300 : Int) < nm
  · have HN := hid (show ¬ Vc.Small ts ms sp from fun h => by have := h.m; omega)
    go_enter Try.func16, Try.ntmps16
    go_wp2_with fail
    go_ret
    exact ⟨Says.yes HN.out, B0.out⟩
  have d2 : decide ((300 : Int) < nm) = false := decide_eq_false g2
  by_cases g3 : (20 : Int) < ns
  · have HN := hid (show ¬ Vc.Small ts ms sp from fun h => by have := h.s; omega)
    go_enter Try.func16, Try.ntmps16
    go_wp2_with fail
    go_ret
    exact ⟨Says.yes HN.out, B0.out⟩
  have d3 : decide ((20 : Int) < ns) = false := decide_eq_false g3
  obtain ⟨W, hW⟩ : ∃ W, w.alloc (.cells #[.slice a n c, .slice am nm cm, .slice az ns cs] 26) = W := ⟨_, rfl⟩
  rw [hW] at x0 x1 x2 V0 B0
  go_enter Try.func16, Try.ntmps16
  go_wp2_with fail
  try rw [hW]
  clear hW X0
  go_loopg [24] n (fun r iv wr => ∃ j : Nat, r = n - j ∧ j ≤ n ∧ iv = .int .i64 j ∧ Hid (∀ i, i < j → (at_ ts i).size ≤ 80) ∧ W = wr)
  case atStart => exact ⟨0, rfl, by omega, rfl, hid (fun i hi => by omega), rfl⟩
  case round =>
    obtain ⟨j, rfl, hj, rfl, HA, rfl⟩ := hrel
    by_cases hlt : j < n
    · have l0 : (0 : Int) ≤ j := by omega
      have l1 : (j : Int) < n := by omega
      have l2 : IntKind.i64.wrap ((j : Int) + 1) = j + 1 := i64_in (by omega) (by omega)
      obtain ⟨b, off, rfl, hbl, hc⟩ := V0.out.T.at' (by omega)
      have q1 := hc j hlt
      obtain ⟨t, ht⟩ : ∃ t, at_ ts j = t := ⟨_, rfl⟩
      rw [ht] at q1
      have HT := hid ht
      clear hc ht
      by_cases hs : (80 : Int) < t.size
      · have HN := hid (show ¬ Vc.Small ts ms sp from fun h => by have := h.tz j (by omega); rw [HT.out] at this; omega)
        go_wp2_with fail
        go_ret
        exact ⟨Says.yes HN.out, B0.out⟩
      · have d4 : decide ((80 : Int) < t.size) = false := decide_eq_false hs
        go_wp2_with fail
        go_roundg (n - (j + 1))
        case measure => omega
        case rel => exact ⟨j + 1, rfl, by omega, by go_num, hid (fun i hi => by
          by_cases h : i < j
          · exact HA.out i h
          · obtain rfl : i = j := by omega
            rw [HT.out]; omega), rfl⟩
    · have l1 : ¬ (j : Int) < n := by omega
      go_wp2_with fail
      go_loopg [38] ns (fun r iv wr => ∃ k : Nat, r = ns - k ∧ k ≤ ns ∧ iv = .int .i64 k ∧ Hid (∀ i, i < k → (tat sp i).size ≤ 40) ∧ W = wr)
      case atStart => exact ⟨0, rfl, by omega, rfl, hid (fun i hi => by omega), rfl⟩
      case round =>
        obtain ⟨k, rfl, hk, rfl, HC, rfl⟩ := hrel
        by_cases hlt : k < ns
        · have l0 : (0 : Int) ≤ k := by omega
          have l1 : (k : Int) < ns := by omega
          have l2 : IntKind.i64.wrap ((k : Int) + 1) = k + 1 := i64_in (by omega) (by omega)
          obtain ⟨b, off, rfl, hbl, hc⟩ := V0.out.S.at' (by omega)
          have q1 := (hc k hlt).1
          obtain ⟨t, ht⟩ : ∃ t, tat sp k = t := ⟨_, rfl⟩
          rw [ht] at q1
          have HT := hid ht
          clear hc ht
          by_cases hs : (40 : Int) < t.size
          · have HN := hid (show ¬ Vc.Small ts ms sp from fun h => by have := h.sz k (by omega); rw [HT.out] at this; omega)
            go_wp2_with fail
            go_ret
            exact ⟨Says.yes HN.out, B0.out⟩
          · have d4 : decide ((40 : Int) < t.size) = false := decide_eq_false hs
            go_wp2_with fail
            go_roundg (ns - (k + 1))
            case measure => omega
            case rel => exact ⟨k + 1, rfl, by omega, by go_num, hid (fun i hi => by
              by_cases h : i < k
              · exact HC.out i h
              · obtain rfl : i = k := by omega
                rw [HT.out]; omega), rfl⟩
        · have l1 : ¬ (k : Int) < ns := by omega
          have HN := hid (show ¬ ¬ Vc.Small ts ms sp from fun h => h ⟨by omega, by omega, by omega, fun i hi => HA.out i (by omega), fun i hi => HC.out i (by omega)⟩)
          go_wp2_with fail
          go_ret
          exact ⟨Says.no HN.out, B0.out⟩
end Go.Proofs.Ytcjakjmhghoilaa

/-
  Walks of the reference's mayTokens, mayMade, mayMerges, maySpecials, May.
-/
namespace Go.Proofs.Ytcjakjmhghoilaa
open Go.RowKit Go.Maps
set_option linter.unusedVariables false

set_option maxRecDepth 100000 in
set_option maxHeartbeats 3200000 in
theorem rmayTokens_calls {w : World} {a : Option Addr} {n c : Nat} {ts : Vc.Toks} (V : Ts w a n c ts) :
    Calls Try.prog 27 #[.slice a n c] w fun e w' => Says e (Vc.MayT ts) ∧ Below w.heap.size w w' := by
  have hl := V.len
  have TW := hid V
  clear V
  by_cases h0 : (4096 : Int) < n
  · have HN := hid (show ¬ Vc.MayT ts from fun h => by have := h.len; omega)
    go_enter Try.func27, Try.ntmps27
    go_wp2_with fail
    go_ret
    exact ⟨Says.no HN.out, Below.refl _ _⟩
  have hn : n ≤ 4096 := by omega
  go_enter Try.func27, Try.ntmps27
  go_wp2_with fail
  go_loopg [10] n (fun r iv wr => ∃ j : Nat, r = n - j ∧ iv = .int .i64 (j : Int) ∧ j ≤ n ∧ Hid (∀ i, i < j → (at_ ts i).size ≤ 64 ∧ ((at_ ts i).size ≠ 0 → ∀ k, k < i → at_ ts k ≠ at_ ts i)) ∧ w = wr)
  case atStart => exact ⟨0, rfl, rfl, by omega, hid (fun i hi => by omega), rfl⟩
  case round =>
    obtain ⟨j, rfl, rfl, hj, HA, rfl⟩ := hrel
    by_cases hlt : j < n
    · have i1 : (j : Int) < n := by omega
      have i0' : (0 : Int) ≤ j := by omega
      have e2 : IntKind.i64.wrap ((j : Int) + 1) = j + 1 := i64_in (by omega) (by omega)
      obtain ⟨b, off, rfl, hbl, hc⟩ := TW.out.at' (by omega)
      have q1 := hc j hlt
      obtain ⟨t, ht⟩ : ∃ t, at_ ts j = t := ⟨_, rfl⟩
      rw [ht] at q1
      have HT := hid ht
      clear hc ht
      by_cases h64 : (64 : Int) < t.size
      · have HX := hid (show ¬ Vc.MayT ts from fun h => by have := h.sz j (by omega); rw [HT.out] at this; omega)
        go_wp2_with fail
        go_ret
        exact ⟨Says.no HX.out, Below.refl _ _⟩
      have d64 : decide ((64 : Int) < t.size) = false := decide_eq_false h64
      by_cases hz : t.size = 0
      · have e1 := (ba_empty hz).1
        have e3 := (ba_empty hz).2
        have HS := hid hz
        clear hz
        go_wp2_with fail
        go_roundg (n - (j + 1))
        case measure => omega
        case rel => exact ⟨j + 1, rfl, by go_num, by omega, hid (fun i hi => by
          by_cases h : i < j
          · exact HA.out i h
          · obtain rfl : i = j := by omega
            rw [HT.out]
            exact ⟨by rw [HS.out]; omega, fun h => absurd HS.out h⟩), rfl⟩
      · have e1 := (ba_full hz).1
        have e3 := (ba_full hz).2
        have HS := hid hz
        clear hz
        go_wp2_with fail
        refine (rof_calls TW.out t).mono ?_
        rintro e w2 ⟨⟨r, rfl, hr⟩, rfl⟩
        have hk : ∃ k : Nat, r = k ∧ k ≤ j ∧ at_ ts k = t ∧ ∀ i, i < k → at_ ts i ≠ t := by
          rcases hr with ⟨h, _⟩ | ⟨_, ⟨k, rfl, hk, he, hf⟩ | ⟨_, h⟩⟩
          · exact absurd h HS.out
          · refine ⟨k, rfl, ?_, he, hf⟩
            by_cases hkj : k ≤ j
            · exact hkj
            · exact absurd HT.out (hf j (by omega))
          · exact absurd HT.out (h j (by omega))
        obtain ⟨k, rfl, hkj, hke, hkf⟩ := hk
        have HE := hid hke
        have HF := hid hkf
        clear hr hke hkf
        by_cases hkj2 : k = j
        · subst hkj2
          go_wp2_with fail
          go_roundg (n - (k + 1))
          case measure => omega
          case rel => exact ⟨k + 1, rfl, by go_num, by omega, hid (fun i hi => by
            by_cases h : i < k
            · exact HA.out i h
            · obtain rfl : i = k := by omega
              rw [HT.out]
              exact ⟨by omega, fun _ => HF.out⟩), rfl⟩
        · have HX := hid (show ¬ Vc.MayT ts from fun h => hkj2 (h.apart k j (by omega) (by omega) (by rw [HE.out]; exact HS.out) (by rw [HE.out, HT.out])))
          have d5 : ((k : Int) == (j : Int)) = false := by simp; omega
          have d6 : ¬ (k : Int) = j := by omega
          go_wp2_with fail
          go_ret
          exact ⟨Says.no HX.out, Below.refl _ _⟩
    · obtain rfl : j = n := by omega
      have k1 : ¬ ((j : Int) < j) := by omega
      go_wp2_with fail
      go_loopg [4] 256 (fun r iv wr => ∃ b : Nat, r = 256 - b ∧ iv = .int .i64 (b : Int) ∧ b ≤ 256 ∧ Hid (∀ i, i < b → ∃ k, k < j ∧ at_ ts k = Vc.one i) ∧ Hid (Below w.heap.size w wr))
      case atStart => exact ⟨0, rfl, rfl, by omega, hid (fun i hi => by omega), hid (Below.refl _ _)⟩
      case round =>
        obtain ⟨b, rfl, rfl, hb, HC, HB⟩ := hrel
        by_cases hlt : b < 256
        · have i1 : (b : Int) < 256 := by omega
          have i0' : (0 : Int) ≤ b := by omega
          have e2 : IntKind.i64.wrap ((b : Int) + 1) = b + 1 := i64_in (by omega) (by omega)
          have e3 : IntKind.u8.wrap (b : Int) = b := u8_in' (by omega) (by omega)
          have cv := cv_one wr b
          obtain ⟨S, hS⟩ : ∃ S, Vc.one b = S := ⟨_, rfl⟩
          rw [hS] at cv
          have HSS := hid hS
          clear hS
          have B2 := hid (HB.out.alloc HB.out.size (.cells #[.int .u8 (b : Int)] 5))
          go_wp2_with fail
          refine (rof_calls (TW.out.below B2.out) S).mono ?_
          rintro e w2 ⟨⟨r, rfl, hr⟩, rfl⟩
          have hS1 : S.size ≠ 0 := by rw [← HSS.out, one_size]; decide
          rcases hr with ⟨h, _⟩ | ⟨_, ⟨k, rfl, hk, he, _⟩ | ⟨rfl, h⟩⟩
          · exact absurd h hS1
          · have HE := hid he
            have l3 : ¬ (k : Int) < 0 := by omega
            clear he hS1
            go_wp2_with fail
            go_roundg (256 - (b + 1))
            case measure => omega
            case rel => exact ⟨b + 1, rfl, by go_num, by omega, hid (fun i hi => by
              by_cases h : i < b
              · exact HC.out i h
              · obtain rfl : i = b := by omega
                exact ⟨k, by omega, by rw [HE.out, HSS.out]⟩), B2⟩
          · have HX := hid (show ¬ Vc.MayT ts from fun hm => by
              obtain ⟨i, hi, he⟩ := hm.all b hlt
              exact h i hi (by rw [he, HSS.out]))
            clear h hS1
            go_wp2_with fail
            go_ret
            exact ⟨Says.no HX.out, B2.out⟩
        · obtain rfl : b = 256 := by omega
          have k2 : ¬ ((256 : Nat) : Int) < 256 := by omega
          have HX := hid (show Vc.MayT ts from ⟨by omega, fun i hi => (HA.out i (by omega)).1, fun i k hi hk hz he => by
            rcases Nat.lt_trichotomy i k with h | h | h
            · exact absurd he ((HA.out k (by omega)).2 (by rw [← he]; exact hz) i h)
            · exact h
            · exact absurd he.symm ((HA.out i (by omega)).2 hz k h), fun b hb => by
            obtain ⟨k, hk, he⟩ := HC.out b hb
            exact ⟨k, by omega, he⟩⟩)
          go_wp2_with fail
          go_ret
          exact ⟨Says.yes HX.out, HB.out⟩

set_option maxRecDepth 100000 in
set_option maxHeartbeats 3200000 in
theorem rmayMade_calls {w : World} {a am az : Option Addr} {n c nm cm ns cs : Nat} {ts : Vc.Toks} {ms : List Mg4} (V : Ts w a n c ts) (M : Qw w am nm cm ms) (hn : n ≤ 4096) (hm : nm ≤ 16384) :
    Calls Try.prog 29 #[.agg #[.slice a n c, .slice am nm cm, .slice az ns cs]] w fun e w' => Says e (Vc.Made ts ms) ∧ Below w.heap.size w w' := by
  have hl := V.len
  have hlm := M.len
  have B0 := hid ((Below.refl w.heap.size w).alloc (Nat.le_refl _) (.cells #[.slice a n c, .slice am nm cm, .slice az ns cs] 26))
  have X0 := hid (Bx3.new w 26 (.slice a n c) (.slice am nm cm) (.slice az ns cs))
  have T0 := hid (V.below B0.out)
  have M0 := hid (M.below B0.out)
  clear V M
  have x0 := X0.out.cell0
  have x1 := X0.out.cell1
  obtain ⟨W, hW⟩ : ∃ W, w.alloc (.cells #[.slice a n c, .slice am nm cm, .slice az ns cs] 26) = W := ⟨_, rfl⟩
  rw [hW] at x0 x1 T0 M0 B0
  go_enter Try.func29, Try.ntmps29
  go_wp2_with fail
  try rw [hW]
  clear hW X0
  go_loopg [9] n (fun r iv wr => ∃ j : Nat, r = n - j ∧ j ≤ n ∧ iv = .int .i64 j ∧ Hid (∀ k, k < j → (at_ ts k).size < 2 ∨ ∃ u, u < ms.length ∧ (mat ms u).2.2.1 = (k : Int)) ∧ W = wr)
  case atStart => exact ⟨0, rfl, by omega, rfl, hid (fun i hi => by omega), rfl⟩
  case round =>
    obtain ⟨j, rfl, hj, rfl, HA, rfl⟩ := hrel
    by_cases hlt : j < n
    · have l0 : (0 : Int) ≤ j := by omega
      have l1 : (j : Int) < n := by omega
      have l2 : IntKind.i64.wrap ((j : Int) + 1) = j + 1 := i64_in (by omega) (by omega)
      obtain ⟨b, off, rfl, hbl, hc⟩ := T0.out.at' (by omega)
      have q1 := hc j hlt
      obtain ⟨t, ht⟩ : ∃ t, at_ ts j = t := ⟨_, rfl⟩
      rw [ht] at q1
      have HT := hid ht
      clear hc ht
      obtain ⟨g0, hg0⟩ : ∃ g : Bool, decide ((t.size : Int) < 2) = g := ⟨_, rfl⟩
      have HG := hid (show g0 = true ↔ t.size < 2 by rw [← hg0, decide_eq_true_eq]; omega)
      go_wp2_with fail
      go_loopg [4, 22] nm (fun r gv iv wr => ∃ (k : Nat) (g : Bool), r = nm - k ∧ gv = .bool g ∧ iv = .int .i64 k ∧ k ≤ nm ∧ Hid (g = true ↔ (t.size < 2 ∨ ∃ u, u < k ∧ (mat ms u).2.2.1 = (j : Int))) ∧ W = wr)
      case atStart => exact ⟨0, g0, rfl, by first | rfl | (rw [hg0]), rfl, by omega, hid ⟨fun h => .inl (HG.out.1 h), fun h => by rcases h with h | ⟨u, hu, _⟩; exact HG.out.2 h; omega⟩, rfl⟩
      case round =>
        obtain ⟨k, g, rfl, rfl, rfl, hk, HI, rfl⟩ := hrel
        by_cases hlt2 : k < nm
        · have m0 : (0 : Int) ≤ k := by omega
          have m1 : (k : Int) < nm := by omega
          have m2 : IntKind.i64.wrap ((k : Int) + 1) = k + 1 := i64_in (by omega) (by omega)
          obtain ⟨b2, off2, rfl, hbl2, hc⟩ := M0.out.at' (by omega)
          obtain ⟨p0, p1, p2, p3⟩ := hc k hlt2
          obtain ⟨o, ho⟩ : ∃ o, (mat ms k).2.2.1 = o := ⟨_, rfl⟩
          rw [ho] at p2
          have HOo := hid ho
          clear hc ho p0 p1 p3
          cases g
          · by_cases he : o = (j : Int)
            · subst he
              go_wp2_with fail
              go_roundg (nm - (k + 1))
              case measure => omega
              case rel => exact ⟨k + 1, true, rfl, rfl, by go_num, by omega, hid ⟨fun _ => .inr ⟨k, by omega, HOo.out⟩, fun _ => rfl⟩, rfl⟩
            · have d5 : (o == (j : Int)) = false := by simpa using he
              go_wp2_with fail
              go_roundg (nm - (k + 1))
              case measure => omega
              case rel => exact ⟨k + 1, false, rfl, rfl, by go_num, by omega, hid ⟨(fun h => by cases h), fun h => HI.out.2 (by
                rcases h with h | ⟨u, hu, hue⟩
                · exact .inl h
                · by_cases huk : u < k
                  · exact .inr ⟨u, huk, hue⟩
                  · obtain rfl : u = k := by omega
                    rw [HOo.out] at hue; exact absurd hue he)⟩, rfl⟩
          · go_wp2_with fail
            go_roundg (nm - (k + 1))
            case measure => omega
            case rel => exact ⟨k + 1, true, rfl, rfl, by go_num, by omega, hid ⟨fun _ => by
              rcases HI.out.1 (by first | rfl | trivial) with h | ⟨u, hu, hue⟩
              · exact .inl h
              · exact .inr ⟨u, by omega, hue⟩, fun _ => rfl⟩, rfl⟩
        · obtain rfl : k = nm := by omega
          have m1 : ¬ (k : Int) < k := by omega
          cases g
          · have HN := hid (show ¬ Vc.Made ts ms from fun h => by
              have := h j (by omega)
              rw [HT.out] at this
              exact absurd (HI.out.2 (by
                rcases this with h | ⟨u, hu, hue⟩
                · exact .inl h
                · exact .inr ⟨u, by omega, hue⟩)) (by decide))
            go_wp2_with fail
            go_ret
            exact ⟨Says.no HN.out, B0.out⟩
          · go_wp2_with fail
            go_roundg (n - (j + 1))
            case measure => omega
            case rel => exact ⟨j + 1, rfl, by omega, by go_num, hid (fun i hi => by
              by_cases h : i < j
              · exact HA.out i h
              · obtain rfl : i = j := by omega
                rw [HT.out]
                rcases HI.out.1 (by first | rfl | trivial) with h | ⟨u, hu, hue⟩
                · exact .inl h
                · exact .inr ⟨u, by omega, hue⟩), rfl⟩
    · have l1 : ¬ (j : Int) < n := by omega
      have HN := hid (show Vc.Made ts ms from fun k hk => HA.out k (by omega))
      go_wp2_with fail
      go_ret
      exact ⟨Says.yes HN.out, B0.out⟩

set_option maxRecDepth 100000 in
set_option maxHeartbeats 6400000 in
theorem rmayMerges_calls {w : World} {a am az : Option Addr} {n c nm cm ns cs : Nat} {ts : Vc.Toks} {ms : List Mg4} (V : Ts w a n c ts) (M : Qw w am nm cm ms) (hz : ∀ i, i < n → (at_ ts i).size ≤ 64) :
    Calls Try.prog 28 #[.agg #[.slice a n c, .slice am nm cm, .slice az ns cs]] w fun e w' => Says e (Vc.MayM ts ms) ∧ Below w.heap.size w w' := by
  have hl := V.len
  have hlm := M.len
  have B0 := hid ((Below.refl w.heap.size w).alloc (Nat.le_refl _) (.cells #[.slice a n c, .slice am nm cm, .slice az ns cs] 26))
  have X0 := hid (Bx3.new w 26 (.slice a n c) (.slice am nm cm) (.slice az ns cs))
  have TW := hid V
  have MW := hid M
  have HZ := hid hz
  clear V M hz
  by_cases h0 : (16384 : Int) < nm
  · have HN := hid (show ¬ Vc.MayM ts ms from fun h => by have := h.len; omega)
    go_enter Try.func28, Try.ntmps28
    go_wp2_with fail
    go_ret
    exact ⟨Says.no HN.out, B0.out⟩
  have hm : nm ≤ 16384 := by omega
  go_enter Try.func28, Try.ntmps28
  go_wp2_with fail
  go_loopg [14] nm (fun r iv wr => ∃ j : Nat, r = nm - j ∧ iv = .int .i64 (j : Int) ∧ j ≤ nm ∧ Hid (∀ i, i < j → Vc.OkM ts (mat ms i)) ∧ Hid (∀ i k, i < k → k < j → Vc.Both (mat ms i) (mat ms k)) ∧ Hid (Bx3 wr w.heap.size 26 (.slice a n c) (.slice am nm cm) (.slice az ns cs)) ∧ Hid (Below w.heap.size w wr))
  case atStart => exact ⟨0, rfl, rfl, by omega, hid (fun i hi => by omega), hid (fun i k _ hk => by omega), X0, B0⟩
  case round =>
    obtain ⟨j, rfl, rfl, hj, HA, HP, HX, HB⟩ := hrel
    by_cases hlt : j < nm
    · have k1 : (j : Int) < nm := by omega
      have k0 : (0 : Int) ≤ j := by omega
      have e2 : IntKind.i64.wrap ((j : Int) + 1) = j + 1 := i64_in (by omega) (by omega)
      have xx1 := HX.out.cell1
      obtain ⟨b, off, rfl, hbl, hc⟩ := (MW.out.below HB.out).at' (by omega)
      obtain ⟨p0, p1, p2, p3⟩ := hc j hlt
      obtain ⟨⟨x0, x1, x2, x3⟩, hx⟩ : ∃ x, mat ms j = x := ⟨_, rfl⟩
      rw [hx] at p0 p1 p2 p3
      have HQ := hid hx
      obtain ⟨K, hK⟩ : ∃ K, wr.heap.size = K := ⟨_, rfl⟩
      have X3 := hid (HX.out.alloc (.cells #[.int .i64 x0, .int .i64 x1, .int .i64 x2, .int .i64 x3] 50))
      have Y3 := hid (Bx4.new wr 50 (.int .i64 x0) (.int .i64 x1) (.int .i64 x2) (.int .i64 x3))
      have B3 := hid (HB.out.alloc HB.out.size (.cells #[.int .i64 x0, .int .i64 x1, .int .i64 x2, .int .i64 x3] 50))
      have hKs := X3.out.lt
      rw [hK] at Y3
      have hKw := HB.out.size
      rw [hK] at hKw
      have z0 := X3.out.cell0
      have z1 := X3.out.cell1
      have y0 := Y3.out.cell0
      have y1 := Y3.out.cell1
      have y2 := Y3.out.cell2
      have y3 := Y3.out.cell3
      have T3 := hid (TW.out.below B3.out)
      clear hc hx
      go_wp2_with fail
      refine (ris_calls T3.out x0).mono ?_
      rintro e w4 ⟨⟨t, rfl, ht⟩, rfl⟩
      have HO := hid ht
      clear ht
      cases t
      · have HN := hid (show ¬ Vc.MayM ts ms from fun h => by
          have := (h.ok j (by omega)).1
          rw [HQ.out] at this
          exact absurd (HO.out.2 this) (by decide))
        go_wp2_with fail
        go_ret
        exact ⟨Says.no HN.out, B3.out⟩
      have I0 := hid (HO.out.1 rfl)
      clear HO
      go_wp2_with fail
      refine (ris_calls T3.out x1).mono ?_
      rintro e w4 ⟨⟨t, rfl, ht⟩, rfl⟩
      have HO := hid ht
      clear ht
      cases t
      · have HN := hid (show ¬ Vc.MayM ts ms from fun h => by
          have := (h.ok j (by omega)).2.1
          rw [HQ.out] at this
          exact absurd (HO.out.2 this) (by decide))
        go_wp2_with fail
        go_ret
        exact ⟨Says.no HN.out, B3.out⟩
      have I1 := hid (HO.out.1 rfl)
      clear HO
      go_wp2_with fail
      refine (ris_calls T3.out x2).mono ?_
      rintro e w4 ⟨⟨t, rfl, ht⟩, rfl⟩
      have HO := hid ht
      clear ht
      cases t
      · have HN := hid (show ¬ Vc.MayM ts ms from fun h => by
          have := (h.ok j (by omega)).2.2.1
          rw [HQ.out] at this
          exact absurd (HO.out.2 this) (by decide))
        go_wp2_with fail
        go_ret
        exact ⟨Says.no HN.out, B3.out⟩
      have I2 := hid (HO.out.1 rfl)
      clear HO
      by_cases o0 : x3 < 0
      · have HN := hid (show ¬ Vc.MayM ts ms from fun h => by
          have := (h.ok j (by omega)).2.2.2.2.1
          rw [HQ.out] at this
          simp at this
          omega)
        go_wp2_with fail
        go_ret
        exact ⟨Says.no HN.out, B3.out⟩
      have do0 : decide (x3 < (0 : Int)) = false := decide_eq_false o0
      by_cases o1 : 1048576 < x3
      · have HN := hid (show ¬ Vc.MayM ts ms from fun h => by
          have := (h.ok j (by omega)).2.2.2.2.2
          rw [HQ.out] at this
          simp at this
          omega)
        go_wp2_with fail
        go_ret
        exact ⟨Says.no HN.out, B3.out⟩
      have do1 : decide ((1048576 : Int) < x3) = false := decide_eq_false o1
      obtain ⟨P0, hP0⟩ : ∃ q : Nat, x0 = q := ⟨x0.toNat, by have := I0.out.1; omega⟩
      obtain ⟨P1, hP1⟩ : ∃ q : Nat, x1 = q := ⟨x1.toNat, by have := I1.out.1; omega⟩
      obtain ⟨P2, hP2⟩ : ∃ q : Nat, x2 = q := ⟨x2.toNat, by have := I2.out.1; omega⟩
      subst hP0 hP1 hP2
      have b0 : P0 < n := by have := I0.out.2.1; omega
      have b1 : P1 < n := by have := I1.out.2.1; omega
      have b2 : P2 < n := by have := I2.out.2.1; omega
      have b0' : (P0 : Int) < n := by omega
      have b1' : (P1 : Int) < n := by omega
      have b2' : (P2 : Int) < n := by omega
      have c0' : (0 : Int) ≤ P0 := by omega
      have c1' : (0 : Int) ≤ P1 := by omega
      have c2' : (0 : Int) ≤ P2 := by omega
      obtain ⟨bt, offt, rfl, hblt, hct⟩ := T3.out.at' (by omega)
      have t0 := hct P0 b0
      have t1 := hct P1 b1
      have t2 := hct P2 b2
      have sz0 := HZ.out P0 b0
      have sz1 := HZ.out P1 b1
      obtain ⟨s0, hs0⟩ : ∃ s, at_ ts P0 = s := ⟨_, rfl⟩
      obtain ⟨s1, hs1⟩ : ∃ s, at_ ts P1 = s := ⟨_, rfl⟩
      obtain ⟨s2, hs2⟩ : ∃ s, at_ ts P2 = s := ⟨_, rfl⟩
      rw [hs0] at t0 sz0
      rw [hs1] at t1 sz1
      rw [hs2] at t2
      have G0 := hid hs0
      have G1 := hid hs1
      have G2 := hid hs2
      have hadd : ¬ 9223372036854775807 < s0.size + s1.size := by omega
      clear hs0 hs1 hs2 hct sz0 sz1
      by_cases hs : s2 = s0 ++ s1
      · have HOk := hid (show Vc.OkM ts ((P0 : Int), (P1 : Int), (P2 : Int), x3) from ⟨I0.out, I1.out, I2.out, by
          show at_ ts ((P2 : Int).toNat) = at_ ts ((P0 : Int).toNat) ++ at_ ts ((P1 : Int).toNat)
          rw [Int.toNat_natCast, Int.toNat_natCast, Int.toNat_natCast, G0.out, G1.out, G2.out, hs], (show (0 : Int) ≤ x3 by omega), (show x3 ≤ 1048576 by omega)⟩)
        have hb1 : (s2.toList == (s0 ++ s1).toList) = true := by rw [hs]; exact beq_self_eq_true _
        have hb2 : s2.toList = (s0 ++ s1).toList := by rw [hs]
        clear hs I0 I1 I2 G0 G1 G2
        go_wp2_with fail
        go_quiet (fail)
        go_wp2_with fail
        go_loopg [5] j (fun r iv wr2 => ∃ k : Nat, r = j - k ∧ iv = .int .i64 (k : Int) ∧ k ≤ j ∧ Hid (∀ i, i < k → Vc.Both (mat ms i) (mat ms j)) ∧ Hid (Bx3 wr2 w.heap.size 26 (.slice (some ⟨bt, offt, none⟩) n c) (.slice (some ⟨b, off, none⟩) nm cm) (.slice az ns cs)) ∧ Hid (Bx4 wr2 K 50 (.int .i64 (P0 : Int)) (.int .i64 (P1 : Int)) (.int .i64 (P2 : Int)) (.int .i64 x3)) ∧ Hid (Below w.heap.size w wr2))
        case atStart => exact ⟨0, rfl, rfl, by omega, hid (fun i hi => by omega), hid (X3.out.below (below_drewN (Below.refl _ _) nq) X3.out.lt), hid (Y3.out.below (below_drewN (Below.refl _ _) nq) Y3.out.lt), hid (below_drewN B3.out nq)⟩
        case round =>
          obtain ⟨k, rfl, rfl, hk, HC, HX2, HY2, HB2⟩ := hrel
          by_cases hlt2 : k < j
          · have m1 : (k : Int) < j := by omega
            have m0 : (0 : Int) ≤ k := by omega
            have m3 : (k : Int) < nm := by omega
            have m2 : IntKind.i64.wrap ((k : Int) + 1) = k + 1 := i64_in (by omega) (by omega)
            obtain ⟨bb, ob, heq, _, hc2⟩ := (MW.out.below HB2.out).at' (by omega)
            cases heq
            obtain ⟨p0, p1, p2, p3⟩ := hc2 k (by omega)
            obtain ⟨⟨v0, v1, v2, v3⟩, hv⟩ : ∃ x, mat ms k = x := ⟨_, rfl⟩
            rw [hv] at p0 p1 p2 p3
            have HV := hid hv
            clear hc2 hv
            have xx2 := HX2.out.cell1
            have X4 := hid (HX2.out.alloc (.cells #[.int .i64 v0, .int .i64 v1, .int .i64 v2, .int .i64 v3] 50))
            have Y4 := hid (HY2.out.alloc (.cells #[.int .i64 v0, .int .i64 v1, .int .i64 v2, .int .i64 v3] 50))
            have Z4 := hid (Bx4.new wr 50 (.int .i64 v0) (.int .i64 v1) (.int .i64 v2) (.int .i64 v3))
            have B4 := hid (HB2.out.alloc HB2.out.size (.cells #[.int .i64 v0, .int .i64 v1, .int .i64 v2, .int .i64 v3] 50))
            have y0 := Y4.out.cell0
            have y1 := Y4.out.cell1
            have y2 := Y4.out.cell2
            have y3 := Y4.out.cell3
            go_wp2_with fail
            refine (rahead_calls v0 v1 v2 v3 P0 P1 P2 x3 _).mono ?_
            rintro e w5 ⟨⟨t, rfl, ht⟩, b5⟩
            have HO := hid ht
            have X5 := hid (X4.out.below b5 X4.out.lt)
            have Y5 := hid (Y4.out.below b5 Y4.out.lt)
            have Z5 := hid (Z4.out.below b5 Z4.out.lt)
            have B5 := hid (B4.out.trans (b5.mono B4.out.size))
            clear ht b5 X4 Y4 Z4 B4 y0 y1 y2 y3
            cases t
            · have HN := hid (show ¬ Vc.MayM ts ms from fun h => by
                have := (h.both k j hlt2 (by omega)).1
                rw [HV.out, HQ.out] at this
                exact absurd (HO.out.2 this) (by decide))
              go_wp2_with fail
              go_ret
              exact ⟨Says.no HN.out, B5.out⟩
            have HAh := hid (HO.out.1 rfl)
            clear HO
            have y0 := Y5.out.cell0
            have y1 := Y5.out.cell1
            have y2 := Y5.out.cell2
            have y3 := Y5.out.cell3
            have z0 := Z5.out.cell0
            have z1 := Z5.out.cell1
            have z2 := Z5.out.cell2
            have z3 := Z5.out.cell3
            by_cases a1 : v0 = (P0 : Int) ∧ v1 = (P1 : Int)
            · have HN := hid (show ¬ Vc.MayM ts ms from fun h => by
                have := (h.both k j hlt2 (by omega)).2.1
                rw [HV.out, HQ.out] at this
                exact this a1)
              obtain ⟨rfl, rfl⟩ := a1
              go_wp2_with fail
              go_ret
              exact ⟨Says.no HN.out, B5.out⟩
            · have HNe := hid a1
              by_cases a2 : v3 = x3 ∧ v2 ≠ (P2 : Int)
              · have HN := hid (show ¬ Vc.MayM ts ms from fun h => by
                  have := (h.both k j hlt2 (by omega)).2.2
                  rw [HV.out, HQ.out] at this
                  exact a2.2 (this a2.1))
                obtain ⟨rfl, a3⟩ := a2
                have d3 : (v2 == (P2 : Int)) = false := by simpa using a3
                by_cases a4 : v0 = (P0 : Int)
                · have d1 : (v1 == (P1 : Int)) = false := by simpa using (fun e => a1 ⟨a4, e⟩)
                  subst a4
                  clear a1
                  go_wp2_with fail
                  go_ret
                  exact ⟨Says.no HN.out, B5.out⟩
                · have d1 : (v0 == (P0 : Int)) = false := by simpa using a4
                  clear a1
                  go_wp2_with fail
                  go_ret
                  exact ⟨Says.no HN.out, B5.out⟩
              · have HR := hid (show ∀ i, i < k + 1 → Vc.Both (mat ms i) (mat ms j) from fun i hi => by
                  by_cases h : i < k
                  · exact HC.out i h
                  · obtain rfl : i = k := by omega
                    rw [HV.out, HQ.out]
                    exact ⟨HAh.out, a1, fun e => by
                      by_cases h2 : v2 = (P2 : Int)
                      · exact h2
                      · exact absurd ⟨e, h2⟩ a2⟩)
                have g3 : (v3 == x3) = false ∨ (v3 = x3 ∧ v2 = (P2 : Int)) := by
                  by_cases h3 : v3 = x3
                  · right
                    refine ⟨h3, ?_⟩
                    by_cases h2 : v2 = (P2 : Int)
                    · exact h2
                    · exact absurd ⟨h3, h2⟩ a2
                  · left; simpa using h3
                have g0 : (v0 == (P0 : Int)) = false ∨ (v0 = (P0 : Int) ∧ (v1 == (P1 : Int)) = false) := by
                  by_cases h3 : v0 = (P0 : Int)
                  · right
                    exact ⟨h3, by simpa using (fun e => a1 ⟨h3, e⟩)⟩
                  · left; simpa using h3
                clear a1 a2 HNe
                rcases g0 with g0 | ⟨rfl, g0⟩
                · rcases g3 with g3 | ⟨rfl, rfl⟩
                  · go_wp2_with fail
                    go_roundg (j - (k + 1))
                    case measure => omega
                    case rel => exact ⟨k + 1, rfl, by go_num, by omega, HR, X5, Y5, B5⟩
                  · go_wp2_with fail
                    go_roundg (j - (k + 1))
                    case measure => omega
                    case rel => exact ⟨k + 1, rfl, by go_num, by omega, HR, X5, Y5, B5⟩
                · rcases g3 with g3 | ⟨rfl, rfl⟩
                  · go_wp2_with fail
                    go_roundg (j - (k + 1))
                    case measure => omega
                    case rel => exact ⟨k + 1, rfl, by go_num, by omega, HR, X5, Y5, B5⟩
                  · go_wp2_with fail
                    go_roundg (j - (k + 1))
                    case measure => omega
                    case rel => exact ⟨k + 1, rfl, by go_num, by omega, HR, X5, Y5, B5⟩
          · obtain rfl : k = j := by omega
            have m1 : ¬ (k : Int) < k := by omega
            go_wp2_with fail
            go_roundg (nm - (k + 1))
            case measure => omega
            case rel => exact ⟨k + 1, rfl, by go_num, by omega, hid (fun i hi => by
              by_cases h : i < k
              · exact HA.out i h
              · obtain rfl : i = k := by omega
                rw [HQ.out]; exact HOk.out), hid (fun i q hiq hq => by
              by_cases h : q < k
              · exact HP.out i q hiq h
              · obtain rfl : q = k := by omega
                exact HC.out i hiq), HX2, HB2⟩
      · have HN := hid (show ¬ Vc.MayM ts ms from fun h => by
          have := (h.ok j (by omega)).2.2.2.1
          rw [HQ.out] at this
          have this : at_ ts ((P2 : Int).toNat) = at_ ts ((P0 : Int).toNat) ++ at_ ts ((P1 : Int).toNat) := this
          rw [Int.toNat_natCast, Int.toNat_natCast, Int.toNat_natCast, G0.out, G1.out, G2.out] at this
          exact hs this)
        have hs' : ¬ s2.toList = (s0 ++ s1).toList := fun h => hs (ba_eq h)
        have hs2 : (s2.toList == (s0 ++ s1).toList) = false := beq_eq_false_iff_ne.mpr hs'
        clear I0 I1 I2 G0 G1 G2
        have BB := hid (fun d => below_drewN B3.out d)
        go_wp2_with fail
        go_quiet (fail)
        go_wp2_with fail
        go_ret
        exact ⟨Says.no HN.out, BB.out nq⟩
    · have k1 : ¬ ((j : Int) < nm) := by omega
      have HN := hid (show Vc.MayM ts ms from ⟨by omega, fun i hi => HA.out i (by omega), fun i k hik hk => HP.out i k hik (by omega)⟩)
      go_wp2_with fail
      go_ret
      exact ⟨Says.yes HN.out, HB.out⟩
end Go.Proofs.Ytcjakjmhghoilaa

/-
  Walks of the reference's maySpecials, May.
-/
namespace Go.Proofs.Ytcjakjmhghoilaa
open Go.RowKit Go.Maps
set_option linter.unusedVariables false

set_option maxRecDepth 100000 in
set_option maxHeartbeats 6400000 in
theorem rmaySpecials_calls {w : World} {a am az : Option Addr} {n c nm cm ns cs : Nat} {ts : Vc.Toks} {sp : Vc.Sps} (V : Ts w a n c ts) (Q : Rw w az ns cs sp) (hz : ∀ i, i < sp.length → (tat sp i).size ≤ 1000000) :
    Calls Try.prog 30 #[.agg #[.slice a n c, .slice am nm cm, .slice az ns cs]] w fun e w' => Says e (Vc.MayS ts sp) ∧ Below w.heap.size w w' := by
  have hl := V.len
  have hls := Q.len
  have hlt0 : n ≤ 9223372036854775807 := by have := V.le; have := V.mx; unfold maxLen at this; omega
  have B0 := hid ((Below.refl w.heap.size w).alloc (Nat.le_refl _) (.cells #[.slice a n c, .slice am nm cm, .slice az ns cs] 26))
  have X0 := hid (Bx3.new w 26 (.slice a n c) (.slice am nm cm) (.slice az ns cs))
  have TW := hid V
  have QW := hid Q
  have HZ := hid hz
  clear V Q hz
  by_cases h0 : (16 : Int) < ns
  · have HN := hid (show ¬ Vc.MayS ts sp from fun h => by have := h.len; omega)
    go_enter Try.func30, Try.ntmps30
    go_wp2_with fail
    go_ret
    exact ⟨Says.no HN.out, B0.out⟩
  have hm : ns ≤ 16 := by omega
  go_enter Try.func30, Try.ntmps30
  go_wp2_with fail
  go_loopg [13] ns (fun r iv wr => ∃ j : Nat, r = ns - j ∧ iv = .int .i64 (j : Int) ∧ j ≤ ns ∧ Hid (∀ i, i < j → Vc.NameOk (tat sp i) ∧ Vc.Emp ts (kat sp i)) ∧ Hid (∀ i k, i < k → k < j → Vc.NLt (tat sp i) (tat sp k) ∧ kat sp i ≠ kat sp k) ∧ Hid (Bx3 wr w.heap.size 26 (.slice a n c) (.slice am nm cm) (.slice az ns cs)) ∧ Hid (Below w.heap.size w wr))
  case atStart => exact ⟨0, rfl, rfl, by omega, hid (fun i hi => by omega), hid (fun i k _ hk => by omega), X0, B0⟩
  case round =>
    obtain ⟨j, rfl, rfl, hj, HA, HP, HX, HB⟩ := hrel
    by_cases hlt : j < ns
    · have k1 : (j : Int) < ns := by omega
      have k0 : (0 : Int) ≤ j := by omega
      have e2 : IntKind.i64.wrap ((j : Int) + 1) = j + 1 := i64_in (by omega) (by omega)
      have xx2 := HX.out.cell2
      obtain ⟨b, off, rfl, hbl, hc⟩ := (QW.out.below HB.out).at' (by omega)
      obtain ⟨p0, p1⟩ := hc j hlt
      have hsz := HZ.out j (by omega)
      obtain ⟨s, hs⟩ : ∃ x, tat sp j = x := ⟨_, rfl⟩
      obtain ⟨x, hx⟩ : ∃ x, kat sp j = x := ⟨_, rfl⟩
      rw [hs] at p0 hsz
      rw [hx] at p1
      have HS := hid hs
      have HK := hid hx
      obtain ⟨K, hK⟩ : ∃ K, wr.heap.size = K := ⟨_, rfl⟩
      have X3 := hid (HX.out.alloc (.cells #[.string s, .int .i64 x] 73))
      have Y3 := hid (Bx2.new wr 73 (.string s) (.int .i64 x))
      have B3 := hid (HB.out.alloc HB.out.size (.cells #[.string s, .int .i64 x] 73))
      rw [hK] at Y3
      have z0 := X3.out.cell0
      have z2 := X3.out.cell2
      have y0 := Y3.out.cell0
      have y1 := Y3.out.cell1
      have T3 := hid (TW.out.below B3.out)
      clear hc hs hx
      go_wp2_with fail
      refine (rmayName_calls s _ hsz).mono ?_
      rintro e w4 ⟨⟨t, rfl, ht⟩, rfl⟩
      have HO := hid ht
      clear ht
      cases t
      · have HN := hid (show ¬ Vc.MayS ts sp from fun h => by
          have := (h.ok j (by omega)).1
          rw [HS.out] at this
          exact absurd (HO.out.2 this) (by decide))
        go_wp2_with fail
        go_ret
        exact ⟨Says.no HN.out, B3.out⟩
      have HOk := hid (HO.out.1 rfl)
      clear HO
      by_cases o0 : x < 0
      · have HN := hid (show ¬ Vc.MayS ts sp from fun h => by
          have := (h.ok j (by omega)).2.1
          rw [HK.out] at this
          omega)
        go_wp2_with fail
        go_ret
        exact ⟨Says.no HN.out, B3.out⟩
      have do0 : decide (x < (0 : Int)) = false := decide_eq_false o0
      by_cases o1 : (n : Int) ≤ x
      · have HN := hid (show ¬ Vc.MayS ts sp from fun h => by
          have := (h.ok j (by omega)).2.2.1
          rw [HK.out] at this
          omega)
        go_wp2_with fail
        go_ret
        exact ⟨Says.no HN.out, B3.out⟩
      have do1 : decide ((n : Int) ≤ x) = false := decide_eq_false o1
      obtain ⟨q, hq⟩ : ∃ q : Nat, x = q := ⟨x.toNat, by omega⟩
      subst hq
      have hqn : q < n := by omega
      have hq0 : (0 : Int) ≤ q := by omega
      have hq1 : (q : Int) < n := by omega
      have hq2 : ¬ n ≤ q := by omega
      obtain ⟨bt, offt, rfl, hblt, hct⟩ := T3.out.at' (by omega)
      have t0 := hct q hqn
      obtain ⟨u, hu⟩ : ∃ u, at_ ts q = u := ⟨_, rfl⟩
      rw [hu] at t0
      have HU := hid hu
      clear hct hu
      by_cases hz : u.size = 0
      · have e1 := (ba_empty hz).1
        have e3 := (ba_empty hz).2
        have HEm := hid (show Vc.Emp ts (q : Int) from ⟨by omega, by omega, by rw [Int.toNat_natCast, HU.out]; exact hz⟩)
        clear hz
        go_wp2_with fail
        go_loopg [5] j (fun r iv wr2 => ∃ k : Nat, r = j - k ∧ iv = .int .i64 (k : Int) ∧ k ≤ j ∧ Hid (∀ i, i < k → Vc.NLt (tat sp i) (tat sp j) ∧ kat sp i ≠ kat sp j) ∧ Hid (Bx3 wr2 w.heap.size 26 (.slice (some ⟨bt, offt, none⟩) n c) (.slice am nm cm) (.slice (some ⟨b, off, none⟩) ns cs)) ∧ Hid (Bx2 wr2 K 73 (.string s) (.int .i64 (q : Int))) ∧ Hid (Below w.heap.size w wr2))
        case atStart => exact ⟨0, rfl, rfl, by omega, hid (fun i hi => by omega), X3, Y3, B3⟩
        case round =>
          obtain ⟨k, rfl, rfl, hk, HC, HX2, HY2, HB2⟩ := hrel
          by_cases hlt2 : k < j
          · have m1 : (k : Int) < j := by omega
            have m0 : (0 : Int) ≤ k := by omega
            have m3 : (k : Int) < ns := by omega
            have m2 : IntKind.i64.wrap ((k : Int) + 1) = k + 1 := i64_in (by omega) (by omega)
            obtain ⟨bb, ob, heq, _, hc2⟩ := (QW.out.below HB2.out).at' (by omega)
            cases heq
            obtain ⟨p0, p1⟩ := hc2 k (by omega)
            obtain ⟨s2, hs2⟩ : ∃ x, tat sp k = x := ⟨_, rfl⟩
            obtain ⟨x2, hx2⟩ : ∃ x, kat sp k = x := ⟨_, rfl⟩
            rw [hs2] at p0
            rw [hx2] at p1
            have HS2 := hid hs2
            have HK2 := hid hx2
            clear hc2 hs2 hx2
            have xx2 := HX2.out.cell2
            have y0 := HY2.out.cell0
            have y1 := HY2.out.cell1
            have X4 := hid (fun d => HX2.out.below (below_drewN (Below.refl _ _) d) HX2.out.lt)
            have Y4 := hid (fun d => HY2.out.below (below_drewN (Below.refl _ _) d) HY2.out.lt)
            have B4 := hid (fun d => below_drewN HB2.out d)
            by_cases hlt3 : Op.bytesLess s2.toList s.toList = true
            · have HL := hid ((bl_iff s2 s).1 hlt3)
              by_cases hx3 : x2 = (q : Int)
              · have HN := hid (show ¬ Vc.MayS ts sp from fun h => by
                  have := (h.both k j hlt2 (by omega)).2
                  rw [HK2.out, HK.out] at this
                  exact this hx3)
                subst hx3
                go_wp2_with fail
                go_quiet (fail)
                go_wp2_with fail
                go_ret
                exact ⟨Says.no HN.out, B4.out nq⟩
              · have d3 : (x2 == (q : Int)) = false := by simpa using hx3
                have HR := hid (show ∀ i, i < k + 1 → Vc.NLt (tat sp i) (tat sp j) ∧ kat sp i ≠ kat sp j from fun i hi => by
                  by_cases h : i < k
                  · exact HC.out i h
                  · obtain rfl : i = k := by omega
                    rw [HS2.out, HS.out, HK2.out, HK.out]
                    exact ⟨HL.out, hx3⟩)
                go_wp2_with fail
                go_quiet (fail)
                go_wp2_with fail
                go_roundg (j - (k + 1))
                case measure => omega
                case rel => exact ⟨k + 1, rfl, by go_num, by omega, HR, hid (X4.out nq), hid (Y4.out nq), hid (B4.out nq)⟩
            · have hl3 : Op.bytesLess s2.toList s.toList = false := by simpa using hlt3
              have HN := hid (show ¬ Vc.MayS ts sp from fun h => by
                have := (h.both k j hlt2 (by omega)).1
                rw [HS2.out, HS.out] at this
                exact hlt3 ((bl_iff s2 s).2 this))
              clear hlt3
              go_wp2_with fail
              go_quiet (fail)
              go_wp2_with fail
              go_ret
              exact ⟨Says.no HN.out, B4.out nq⟩
          · obtain rfl : k = j := by omega
            have m1 : ¬ (k : Int) < k := by omega
            go_wp2_with fail
            go_roundg (ns - (k + 1))
            case measure => omega
            case rel => exact ⟨k + 1, rfl, by go_num, by omega, hid (fun i hi => by
              by_cases h : i < k
              · exact HA.out i h
              · obtain rfl : i = k := by omega
                rw [HS.out, HK.out]; exact ⟨HOk.out, HEm.out⟩), hid (fun i q hiq hq => by
              by_cases h : q < k
              · exact HP.out i q hiq h
              · obtain rfl : q = k := by omega
                exact HC.out i hiq), HX2, HB2⟩
      · have e1 := (ba_full hz).1
        have e3 := (ba_full hz).2
        have HN := hid (show ¬ Vc.MayS ts sp from fun h => by
          have := (h.ok j (by omega)).2.2.2
          rw [HK.out, Int.toNat_natCast, HU.out] at this
          exact hz this)
        clear hz
        go_wp2_with fail
        go_ret
        exact ⟨Says.no HN.out, B3.out⟩
    · have k1 : ¬ ((j : Int) < ns) := by omega
      have HN := hid (show Vc.MayS ts sp from ⟨by omega, fun i hi => HA.out i (by omega), fun i k hik hk => HP.out i k hik (by omega)⟩)
      go_wp2_with fail
      go_ret
      exact ⟨Says.yes HN.out, HB.out⟩

set_option maxRecDepth 100000 in
set_option maxHeartbeats 3200000 in
theorem rmay_calls {w : World} {a am az : Option Addr} {n c nm cm ns cs : Nat} {ts : Vc.Toks} {ms : List Mg4} {sp : Vc.Sps} (V : Vo w a n c am nm cm az ns cs ts ms sp) (hz : ∀ i, i < sp.length → (tat sp i).size ≤ 1000000) :
    Calls Try.prog 12 #[.agg #[.slice a n c, .slice am nm cm, .slice az ns cs]] w fun e w' => Says e (Vc.May ts ms sp) ∧ Below w.heap.size w w' := by
  have hl := V.T.len
  have hlm := V.M.len
  have B0 := hid ((Below.refl w.heap.size w).alloc (Nat.le_refl _) (.cells #[.slice a n c, .slice am nm cm, .slice az ns cs] 26))
  have X0 := hid (Bx3.new w 26 (.slice a n c) (.slice am nm cm) (.slice az ns cs))
  have V0 := hid (V.below B0.out)
  have HZ := hid hz
  clear V hz
  go_enter Try.func12, Try.ntmps12
  go_wp2_with fail
  refine (rmayTokens_calls V0.out.T).mono ?_
  rintro e w1 ⟨⟨t, rfl, ht⟩, b1⟩
  have HT := hid ht
  have X1 := hid (X0.out.below b1 X0.out.lt)
  have V1 := hid (V0.out.below b1)
  have B1 := hid (B0.out.trans (b1.mono B0.out.size))
  clear ht b1 X0 V0 B0
  cases t
  · have HN := hid (show ¬ Vc.May ts ms sp from fun h => absurd (HT.out.2 h.T) (by decide))
    go_wp2_with fail
    go_ret
    exact ⟨Says.no HN.out, B1.out⟩
  have H1 := hid (HT.out.1 rfl)
  have c0 := X1.out.cell0
  have c1 := X1.out.cell1
  have c2 := X1.out.cell2
  go_wp2_with fail
  refine (rmayMerges_calls V1.out.T V1.out.M (fun i hi => H1.out.sz i (by omega))).mono ?_
  rintro e w2 ⟨⟨t, rfl, ht⟩, b1⟩
  have HU := hid ht
  have X2 := hid (X1.out.below b1 X1.out.lt)
  have V2 := hid (V1.out.below b1)
  have B2 := hid (B1.out.trans (b1.mono B1.out.size))
  clear ht b1 X1 V1 B1 c0 c1 c2 HT
  cases t
  · have HN := hid (show ¬ Vc.May ts ms sp from fun h => absurd (HU.out.2 h.M) (by decide))
    go_wp2_with fail
    go_ret
    exact ⟨Says.no HN.out, B2.out⟩
  have H2 := hid (HU.out.1 rfl)
  have c0 := X2.out.cell0
  have c1 := X2.out.cell1
  have c2 := X2.out.cell2
  go_wp2_with fail
  refine (rmayMade_calls V2.out.T V2.out.M (by have := H1.out.len; omega) (by have := H2.out.len; omega)).mono ?_
  rintro e w3 ⟨⟨t, rfl, ht⟩, b1⟩
  have HV := hid ht
  have X3 := hid (X2.out.below b1 X2.out.lt)
  have V3 := hid (V2.out.below b1)
  have B3 := hid (B2.out.trans (b1.mono B2.out.size))
  clear ht b1 X2 V2 B2 c0 c1 c2 HU
  cases t
  · have HN := hid (show ¬ Vc.May ts ms sp from fun h => absurd (HV.out.2 h.O) (by decide))
    go_wp2_with fail
    go_ret
    exact ⟨Says.no HN.out, B3.out⟩
  have H3 := hid (HV.out.1 rfl)
  have c0 := X3.out.cell0
  have c1 := X3.out.cell1
  have c2 := X3.out.cell2
  go_wp2_with fail
  refine (rmaySpecials_calls V3.out.T V3.out.S HZ.out).mono ?_
  rintro e w4 ⟨⟨t, rfl, ht⟩, b1⟩
  have HS := hid ht
  have B4 := hid (B3.out.trans (b1.mono B3.out.size))
  clear ht b1 X3 V3 B3 c0 c1 c2 HV
  cases t
  · have HN := hid (show ¬ Vc.May ts ms sp from fun h => absurd (HS.out.2 h.S) (by decide))
    go_wp2_with fail
    go_ret
    exact ⟨Says.no HN.out, B4.out⟩
  · have HN := hid (show Vc.May ts ms sp from ⟨H1.out, H2.out, H3.out, HS.out.1 rfl⟩)
    go_wp2_with fail
    go_ret
    exact ⟨Says.yes HN.out, B4.out⟩
end Go.Proofs.Ytcjakjmhghoilaa
