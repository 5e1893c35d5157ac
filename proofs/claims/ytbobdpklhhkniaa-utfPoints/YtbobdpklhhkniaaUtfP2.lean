/-
  The walks of the reference's Points and Rest.
-/
import Derived.Test.YtbobdpklhhkniaaUtfP1
import Derived.Test.YtbobdpklhhkniaaUtfR5
import Derived.Test.YtbobdpklhhkniaaUtfMathE
namespace Go.Proofs.Ytbobdpklhhkniaa
open Go.RowKit
set_option linter.unusedVariables false

theorem St.isEmpty_no {s : ByteArray} {n : Nat} {f : Nat → Int} (h : St s n f) (hn : 0 < n) : s.toList.isEmpty = false := by
  cases e : s.toList with
  | nil => have := h.length; rw [e] at this; simp at this; omega
  | cons => rfl
theorem St.isEmpty_yes {s : ByteArray} {f : Nat → Int} (h : St s 0 f) : s.toList.isEmpty = true := by
  cases e : s.toList with
  | nil => rfl
  | cons => have := h.length; rw [e] at this; simp at this

theorem St.tail {s : ByteArray} {n pos st : Nat} {f : Nat → Int} (h : St s (n - pos) (Utf.sh f pos)) (h1 : st ≤ n - pos) (h2 : pos ≤ n) : St (s.extract st (n - pos)) (n - (pos + st)) (Utf.sh f (pos + st)) := by
  have := h.extract st (n - pos) h1 (Nat.le_refl _)
  rw [show n - (pos + st) = n - pos - st by omega, ← Utf.sh_sh]
  exact this
theorem cell_one_new' (w : World) (x : Value) (t : TypeId) (b : Nat) (hb : b = w.heap.size) : ∀ j u, [x][j]? = some u → (w.alloc (.cells #[x] t)).cell? ((⟨b, 0, none⟩ : Addr).add j) = some u := by
  subst hb
  exact cell_one_new w x t

set_option maxHeartbeats 1000000 in
theorem refRest_calls (s : ByteArray) (n : Nat) (f : Nat → Int) (w : World) (h : St s n f) (hn : n ≤ 100000) :
    Calls Try.prog 16 #[.string s] w fun e w' => e = .returned (.int .i64 (Utf.rest f n)) ∧ Below w.heap.size w w' := by
  have H := hid h
  clear h
  go_enter Try.func16, Try.ntmps16
  go_wp2_with fail
  go_loopg [0] n (fun k sv wr => ∃ (pos : Nat) (s' : ByteArray), k = n - pos ∧ pos ≤ n ∧ sv = .string s' ∧ Hid (St s' (n - pos) (Utf.sh f pos)) ∧ Below w.heap.size w wr ∧ Hid (Utf.rest (Utf.sh f pos) (n - pos) = Utf.rest f n))
  case atStart => exact ⟨0, s, by omega, by omega, rfl, by rw [Utf.sh_zero]; exact H, Below.refl _ _, by rw [Utf.sh_zero]; rfl⟩
  case round =>
    obtain ⟨pos, s', rfl, hpos, rfl, HS, hbel, HR⟩ := hrel
    have hsz := HS.out.size
    by_cases hlt : pos < n
    · have hne := HS.out.isEmpty_no (by omega)
      cases hm : (Utf.dec (Utf.sh f pos) (n - pos) false).2.2
      · have hst := Utf.step_false (f := Utf.sh f pos) (n := n - pos) (by omega) hm
        have hr := Utf.rest_step (Utf.sh f pos) (n := n - pos) (by omega) hm
        obtain ⟨⟨p, m, mo⟩, hd⟩ : ∃ d, Utf.dec (Utf.sh f pos) (n - pos) false = d := ⟨_, rfl⟩
        rw [hd] at hst hm
        generalize Utf.stepN (Utf.sh f pos) (n - pos) false = st at hst hr
        obtain ⟨h1, h2, hm'⟩ := hst
        simp only at hm' hm
        subst hm
        subst hm'
        have HD := hid hd
        have HP := hid hr
        clear hd hr
        have hst' : (st : Int) ≤ s'.size := by omega
        go_wp2_with fail
        refine (refDecode_calls _ _ _ false _ HS.out (by unfold maxLen; omega)).mono ?_
        rintro e w1 ⟨rfl, hb⟩
        rw [HD.out]
        unfold DA
        go_wp2_with fail
        go_roundg (n - (pos + st))
        case measure => omega
        case rel =>
          have bel1 : Below w.heap.size w w1 := hbel.trans (hb.mono hbel.size)
          refine ⟨pos + st, _, rfl, by omega, rfl, St.tail HS.out (by omega) (by omega), bel1.alloc bel1.size _, ?_⟩
          show _ = _
          rw [← HR.out, HP.out, Utf.sh_sh, show n - (pos + st) = n - pos - st by omega]
      · have hr := Utf.rest_more (Utf.sh f pos) (n := n - pos) (by omega) hm
        obtain ⟨⟨p, m, mo⟩, hd⟩ : ∃ d, Utf.dec (Utf.sh f pos) (n - pos) false = d := ⟨_, rfl⟩
        rw [hd] at hm
        simp only at hm
        subst hm
        have HD := hid hd
        have HP := hid (HR.out.symm.trans hr)
        clear hd hr
        go_wp2_with fail
        refine (refDecode_calls _ _ _ false _ HS.out (by unfold maxLen; omega)).mono ?_
        rintro e w1 ⟨rfl, hb⟩
        rw [HD.out]
        unfold DA
        go_wp2_with fail
        go_ret
        have bel1 : Below w.heap.size w w1 := hbel.trans (hb.mono hbel.size)
        exact ⟨ret_int (by rw [HP.out]), bel1.alloc bel1.size _⟩
    · obtain rfl : pos = n := by omega
      have HP := hid (HR.out.symm.trans (by rw [Nat.sub_self, Utf.rest_zero]))
      have hS := HS.out
      rw [Nat.sub_self] at hS
      have hne := hS.isEmpty_yes
      clear hS
      go_wp2_with fail
      go_ret
      exact ⟨ret_int (by rw [HP.out]; rfl), hbel⟩

set_option maxHeartbeats 1000000 in
theorem refPoints_calls (s : ByteArray) (n : Nat) (f : Nat → Int) (w : World) (h : St s n f) (hn : n ≤ 100000) :
    Calls Try.prog 14 #[.string s] w fun e w' => ∃ v, e = .returned v ∧ w'.ownsRow w.heap.size 3 1 v (Utf.pts f n).length (ivals (Utf.pts f n)) ∧ Below w.heap.size w w' := by
  obtain ⟨i, hi, hz0, hz1, hz2⟩ := info_parts Try.info64
  have H := hid h
  clear h
  go_enter Try.func14, Try.ntmps14
  go_wp2_with fail
  go_loopg [0, 3] n (fun k sv v wr => ∃ (pos : Nat) (s' : ByteArray), k = n - pos ∧ pos ≤ n ∧ sv = .string s' ∧ Hid (St s' (n - pos) (Utf.sh f pos)) ∧ Hid (PtsRel w f n wr v pos))
  case atStart => exact ⟨0, s, by omega, by omega, rfl, by rw [Utf.sh_zero]; exact H, [], World.ownsRow_lit w #[] 0 (Nat.le_refl _) (by decide) rfl, (Below.refl _ _).alloc (Nat.le_refl _) _, by rw [Utf.sh_zero]; rfl, by simp⟩
  case round =>
    obtain ⟨pos, s', rfl, hpos, rfl, HS, HR⟩ := hrel
    have hsz := HS.out.size
    obtain ⟨L, hown, hbel, hL, hLp⟩ := HR.out
    clear HR
    by_cases hlt : pos < n
    · have hne := HS.out.isEmpty_no (by omega)
      have HL := hid hL
      clear hL
      have hst := Utf.step_true (f := Utf.sh f pos) (n := n - pos) (by omega)
      have hps := Utf.pts_step (Utf.sh f pos) (n := n - pos) (by omega)
      obtain ⟨⟨p, m, mo⟩, hd⟩ : ∃ d, Utf.dec (Utf.sh f pos) (n - pos) true = d := ⟨_, rfl⟩
      rw [hd] at hst hps
      generalize Utf.stepN (Utf.sh f pos) (n - pos) true = st at hst hps
      obtain ⟨hmo, h1, h2, hm⟩ := hst
      simp only at hmo hm hps
      subst hmo
      subst hm
      have HD := hid hd
      have HP := hid hps
      clear hd hps
      have hst' : (st : Int) ≤ s'.size := by omega
      go_wp2_with fail
      refine (refDecode_calls _ _ _ true _ HS.out (by unfold maxLen; omega)).mono ?_
      rintro e w1 ⟨rfl, hb⟩
      rw [HD.out]
      unfold DA
      have bel1 : Below w.heap.size w w1 := hbel.trans (hb.mono hbel.size)
      have own1 : w1.ownsRow w.heap.size 3 1 u3 L.length (ivals L) := hown.kept (row := none) ⟨hb.os, hb.tape, hb.output, hb.size, fun k hk _ => hb.block k hk⟩ (by cases u3.ownBlock <;> simp)
      have sz1 := bel1.size
      go_wp2_with (at_builtin; (refine wpList_append_own _ rfl _ _ 35 rfl w.heap.size 3 i (.int .i64 0) 1 8 Try.underlying35 hi hz0 hz1 hz2 rfl (by omega) u3 L.length (ivals L) rfl ((own1.alloc _).alloc _) ⟨w1.heap.size + 1, 0, none⟩ 1 1 [.int .i64 p] rfl rfl ?cells (by simp [Value.oneCell']) (by unfold maxLen; omega) (by omega) (by simp; omega) ?_))
      case cells => exact cell_one_new' _ _ _ _ (by simp)
      intro v' w' ho' hg' _
      rw [ivals_snoc] at ho'
      have bel' : Below w.heap.size w w' := ((bel1.alloc bel1.size _).alloc (by simp; omega) _).grown hg' (by simp; omega) (fun k hk => (own1.lt k hk).1)
      have hcN : w'.cell? ⟨w1.heap.size, 1, none⟩ = some (.int .i64 st) := hg'.cell (by simp) (fun e => by
        have := (own1.lt w1.heap.size e.symm).2
        omega)
      go_wp2_with fail
      go_roundg (n - (pos + st))
      case measure => omega
      case rel =>
        refine ⟨pos + st, _, rfl, by omega, rfl, St.tail HS.out (by omega) (by omega), L ++ [p], ?_, bel', ?_, by simp; omega⟩
        · simpa using ho'
        · rw [← HL.out, HP.out, Utf.sh_sh, List.append_assoc, show n - (pos + st) = n - pos - st by omega]; rfl
    · obtain rfl : pos = n := by omega
      rw [Nat.sub_self, Utf.pts_zero, List.append_nil] at hL
      subst hL
      have hS := HS.out
      rw [Nat.sub_self] at hS
      have hne := hS.isEmpty_yes
      clear hS
      go_wp2_with fail
      go_ret
      exact ⟨_, rfl, hown, hbel⟩
end Go.Proofs.Ytbobdpklhhkniaa
