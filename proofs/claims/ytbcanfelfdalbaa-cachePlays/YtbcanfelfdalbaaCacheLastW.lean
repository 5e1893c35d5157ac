/-
  Walk of the law CacheLast.
-/
import Derived.Test.YtbcanfelfdalbaaCaF
import Derived.Test.YtbcanfelfdalbaaPrSm
import Derived.Lib.MinMax
namespace Go.Proofs.Ytbcanfelfdalbaa
open Go.RowKit
set_option linter.unusedVariables false
open Pr (it)
theorem saysB {e : Ending} {p : Prop} (h : Says e p) (hp : p) : e = .returned (.bool true) := by
  obtain ⟨b, rfl, hb⟩ := h
  rw [hb.2 hp]
/-- The i-th key, and its row. -/
def Klast (i : Nat) : Ca.Kx := (Utf8.encode (97 + (i : Int)), [(i : Int), -(i : Int)])
theorem klast_key (i : Nat) : (Klast i).1 = Utf8.encode (97 + (i : Int)) := by simp only [Klast]
theorem klast_inj {i j : Nat} (hi : i < 256) (hj : j < 256) (h : (Klast i).1 = (Klast j).1) : i = j := by
  have h2 : Utf8.encode (((97 + i : Nat) : Int)) = Utf8.encode (((97 + j : Nat) : Int)) := by
    have e1 : ((97 + i : Nat) : Int) = 97 + (i : Int) := by omega
    have e2 : ((97 + j : Nat) : Int) = 97 + (j : Int) := by omega
    rw [e1, e2, ← klast_key, ← klast_key]
    exact h
  have := Ca.enc_inj (by omega) (by omega) h2
  omega
set_option maxRecDepth 100000 in
set_option maxHeartbeats 6400000 in
theorem cacheLast_calls (x y : Int) (w : World) (wx : (Lit.int .u8 x).wf = true) (wy : (Lit.int .u8 y).wf = true) :
    Calls Try.prog 5 #[.int .u8 x, .int .u8 y] w fun e w' => e = .returned (.bool true) ∧ Below w.heap.size w w' := by
  simp [Lit.wf, IntKind.min, IntKind.max, IntKind.signed, IntKind.bits] at wx wy
  obtain ⟨R, rfl⟩ : ∃ R : Nat, x = (R : Int) := ⟨x.toNat, by omega⟩
  obtain ⟨n, rfl⟩ : ∃ n : Nat, y = (n : Int) := ⟨y.toNat, by omega⟩
  have hR : R < 256 := by omega
  have hn : n < 256 := by omega
  have wr1 : IntKind.i64.wrap (R : Int) = R := i64_in (by omega) (by omega)
  have wn1 : IntKind.i64.wrap (n : Int) = n := i64_in (by omega) (by omega)
  have wrn : IntKind.i64.wrap ((n : Int) - R) = n - R := i64_in (by omega) (by omega)
  have HK := hid (fun i j (hij : i < j) (hj : j < n + 1) => show (Klast i).1 ≠ (Klast j).1 from fun e => by have := klast_inj (by omega) (by omega) e; omega)
  clear wx wy
  go_enter Try.func5, Try.ntmps5
  go_wp2_with fail
  refine (cnew_yes w w (Below.refl _ _) R (by omega)).mono ?_
  rintro e w1 ⟨⟨B, S, rfl, q1⟩, _⟩
  have Q1 := hid (show ∃ S, Cq w w1 B S R (Ca.last Klast R 0) 0 0 (fun _ => False) from ⟨S, by rw [Ca.last_zero]; exact q1⟩)
  clear q1
  go_wp2_with fail
  go_loopg [16] n (fun r kv wr => ∃ j : Nat, r = n - j ∧ kv = .int .i64 (j : Int) ∧ j ≤ n ∧ Hid (∃ S, Cq w wr B S R (Ca.last Klast R j) 0 0 (fun _ => False)))
  case atStart => exact ⟨0, rfl, rfl, by omega, Q1⟩
  case round =>
    clear Q1
    obtain ⟨j, rfl, rfl, hj, HQ⟩ := hrel
    by_cases hlt : j < n
    · have l0 : (0 : Int) ≤ j := by omega
      have l1 : (j : Int) < n := by omega
      have l2 : IntKind.i64.wrap ((j : Int) + 1) = j + 1 := i64_in (by omega) (by omega)
      have l3 : IntKind.i64.wrap (97 + (j : Int)) = 97 + j := i64_in (by omega) (by omega)
      have l4 : IntKind.i32.wrap (97 + (j : Int)) = 97 + j := by simp [IntKind.wrap, IntKind.bits, IntKind.signed]; omega
      have l5 : IntKind.i64.wrap (-(j : Int)) = -j := i64_in (by omega) (by omega)
      obtain ⟨S2, q2⟩ := HQ.out
      have c3 := (Below.refl wr.heap.size wr).alloc (Nat.le_refl _) (.cells #[.int .i64 (j : Int), .int .i64 (-(j : Int))] 3)
      have Q3 := hid (q2.grow c3 (X' := fun _ => False) (fun k hk => hk.elim))
      have I3 := hid (Ir.block (xs := [(j : Int), -(j : Int)]) (n := 2) rfl (heap_alloc_new wr (.cells #[.int .i64 (j : Int), .int .i64 (-(j : Int))] 3)) (by decide))
      have HN := hid (Ca.last_put (K := Klast) (room := R) (n := j) (fun a b hab hb => HK.out a b hab (by omega)))
      have hle := Ca.last_len Klast R j
      have HA3 := hid (show ∀ b off, 0 < 2 → (some ⟨wr.heap.size, 0, none⟩ : Option Addr) = some ⟨b, off, none⟩ → ¬ S2 b from fun b off _ e hs => by cases e; exact Nat.lt_irrefl _ (q2.lt _ hs))
      clear q2 c3 HQ
      go_wp2_with fail
      refine (capt_calls Q3.out (Utf8.encode (97 + (j : Int))) (enc_small (by omega) (by omega)) I3.out (by omega) HA3.out).mono ?_
      rintro e w5 ⟨rfl, S5, q5, _⟩
      have Q5 := hid (show ∃ S, Cq w w5 B S R (Ca.last Klast R (j + 1)) 0 0 (fun _ => False) from ⟨S5, by rw [← HN.out]; exact q5⟩)
      clear q5
      go_wp2_with fail
      go_roundg (n - (j + 1))
      case measure => omega
      case rel => exact ⟨j + 1, rfl, by go_num, by omega, Q5⟩
    · have l1 : ¬ (j : Int) < n := by omega
      obtain rfl : n = j := by omega
      have HL := hid (Ca.last_len Klast R n)
      have Q2 := hid (show ∃ (l : Ca.Kl) (h m : Nat) (S : Nat → Prop), Cq w wr B S R l h m (fun _ => False) ∧ (∀ x, x ∈ l ↔ x ∈ Ca.last Klast R n) ∧ l.length = min n R ∧ h + m ≤ 0 from by
        obtain ⟨S, q⟩ := HQ.out
        exact ⟨_, _, _, S, q, fun _ => Iff.rfl, HL.out, by omega⟩)
      clear HQ
      go_wp2_with fail
      go_loopg [32] n (fun r kv wr => ∃ j : Nat, r = n - j ∧ kv = .int .i64 (j : Int) ∧ j ≤ n ∧ Hid (∃ (l : Ca.Kl) (h m : Nat) (S : Nat → Prop), Cq w wr B S R l h m (fun _ => False) ∧ (∀ x, x ∈ l ↔ x ∈ Ca.last Klast R n) ∧ l.length = min n R ∧ h + m ≤ j))
      case atStart => exact ⟨0, rfl, rfl, by omega, Q2⟩
      case round =>
        clear Q2
        obtain ⟨j, rfl, rfl, hj, HQ⟩ := hrel
        obtain ⟨l, h, m, S, q, hm, hl, hhm⟩ := HQ.out
        have Q := hid q
        have HM := hid hm
        have HLn := hid hl
        have hl2 : l.length ≤ 255 := by rw [hl]; omega
        clear q hm HQ hl
        by_cases hlt : j < n
        · have l0 : (0 : Int) ≤ j := by omega
          have l1 : (j : Int) < n := by omega
          have l2 : IntKind.i64.wrap ((j : Int) + 1) = j + 1 := i64_in (by omega) (by omega)
          have l3 : IntKind.i64.wrap (97 + (j : Int)) = 97 + j := i64_in (by omega) (by omega)
          have l4 : IntKind.i32.wrap (97 + (j : Int)) = 97 + j := by simp [IntKind.wrap, IntKind.bits, IntKind.signed]; omega
          have l5 : IntKind.i64.wrap (-(j : Int)) = -j := i64_in (by omega) (by omega)
          have HIn := hid (show (∃ x ∈ l, x.1 = (Klast j).1) ↔ n - R ≤ j from by
            constructor
            · rintro ⟨x, hx, hk⟩
              obtain ⟨i, h1, h2, rfl⟩ := Ca.last_mem.1 ((HM.out x).1 hx)
              have := klast_inj (by omega) (by omega) hk
              omega
            · intro h1
              exact ⟨Klast j, (HM.out _).2 (Ca.last_mem.2 ⟨j, h1, hlt, rfl⟩), rfl⟩)
          go_wp2_with fail
          refine (cget_calls Q.out (Utf8.encode (97 + (j : Int))) (enc_small (by omega) (by omega)) (by omega)).mono ?_
          rintro e w5 (⟨xs, a5, n5, c5, hx, rfl, o5, S5, q5, _⟩ | ⟨hno, rfl, S5, q5, _⟩)
          · have hge := HIn.out.1 ⟨_, hx, by rw [klast_key]⟩
            have hxs : xs = [(j : Int), -(j : Int)] := by
              obtain ⟨i, h1, h2, e⟩ := Ca.last_mem.1 ((HM.out _).1 hx)
              have e1 := klast_inj (i := i) (j := j) (by omega) (by omega) (by rw [e, klast_key])
              subst e1
              exact ((Prod.mk.inj e).2).symm
            subst hxs
            have c6 := (Below.refl w5.heap.size w5).alloc (Nat.le_refl _) (.cells #[.int .i64 (j : Int), .int .i64 (-(j : Int))] 3)
            have Q6 := hid (q5.grow c6 (X' := fun _ => False) (fun k hk => hk.elim))
            have I6 := hid ((Ir.ofOwn' o5).below c6)
            have J6 := hid (Ir.block (xs := [(j : Int), -(j : Int)]) (n := 2) rfl (heap_alloc_new w5 (.cells #[.int .i64 (j : Int), .int .i64 (-(j : Int))] 3)) (by decide))
            have HY := hid (And.intro (Ca.young_mem Q.out.dis hx) (Ca.young_len Q.out.dis hx))
            have t1 : decide ((n : Int) - R ≤ j) = true := decide_eq_true (by omega)
            have t2 : (n : Int) - R ≤ j := by omega
            clear q5 c6 o5 hx hge
            go_wp2_with fail
            refine (same_calls I6.out J6.out).mono ?_
            rintro e w7 ⟨hs, b7⟩
            obtain rfl := saysB hs rfl
            have Q7 := hid (show ∃ (l' : Ca.Kl) (h m : Nat) (S : Nat → Prop), Cq w w7 B S R l' h m (fun _ => False) ∧ (∀ x, x ∈ l' ↔ x ∈ Ca.last Klast R n) ∧ l'.length = min n R ∧ h + m ≤ j + 1 from ⟨_, _, _, _, Q6.out.grow b7 (fun k hk => hk.elim), fun x => (HY.out.1 x).trans (HM.out x), by rw [HY.out.2]; exact HLn.out, by omega⟩)
            clear b7 hs t1 t2
            go_wp2_with fail
            go_roundg (n - (j + 1))
            case measure => omega
            case rel => exact ⟨j + 1, rfl, by go_num, by omega, Q7⟩
          · have hge : ¬ n - R ≤ j := fun h1 => by
              obtain ⟨x, hx, hk⟩ := HIn.out.2 h1
              exact hno x hx (by rw [hk, klast_key])
            have t1 : decide ((n : Int) - R ≤ j) = false := decide_eq_false (by omega)
            have t2 : ¬ (n : Int) - R ≤ j := by omega
            have Q7 := hid (show ∃ (l' : Ca.Kl) (h m : Nat) (S : Nat → Prop), Cq w w5 B S R l' h m (fun _ => False) ∧ (∀ x, x ∈ l' ↔ x ∈ Ca.last Klast R n) ∧ l'.length = min n R ∧ h + m ≤ j + 1 from ⟨_, _, _, _, q5, HM.out, HLn.out, by omega⟩)
            clear q5 hno
            go_wp2_with fail
            go_roundg (n - (j + 1))
            case measure => omega
            case rel => exact ⟨j + 1, rfl, by go_num, by omega, Q7⟩
        · have l1 : ¬ (j : Int) < n := by omega
          go_wp2_with fail
          refine (cafixed_calls wr).mono ?_
          rintro e w8 ⟨rfl, b8⟩
          have Q8 := hid (Q.out.grow b8 (X' := fun _ => False) (fun k hk => hk.elim))
          clear b8
          go_wp2_with fail
          refine (clen_calls Q8.out).mono ?_
          rintro e w9 ⟨rfl, b9⟩
          have B9 := hid (Q8.out.below.trans (b9.mono Q8.out.below.size))
          have hln : (l.length : Int) = min (n : Int) R := by rw [HLn.out]; omega
          clear b9
          by_cases hnr : n ≤ R
          · have m1 : min (n : Int) R = n := by omega
            have m2 : (n : Int) ≤ R := by omega
            have m3 : ¬ (R : Int) < n := by omega
            have m4 : (l.length : Int) = n := by omega
            rw [m4]
            go_wp2_with fail
            go_ret
            exact ⟨rfl, B9.out⟩
          · have m1 : min (n : Int) R = R := by omega
            have m2 : ¬ (n : Int) ≤ R := by omega
            have m3 : (R : Int) < n := by omega
            have m4 : (l.length : Int) = R := by omega
            rw [m4]
            go_wp2_with fail
            go_ret
            exact ⟨rfl, B9.out⟩
end Go.Proofs.Ytbcanfelfdalbaa
