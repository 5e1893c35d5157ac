/-
  The walks of package utf's Points and Rest.
-/
import Derived.Test.YtbobdpklhhkniaaUtfW6
import Derived.Test.YtbobdpklhhkniaaUtfMathF
import Derived.Deep.LoopGhost
import Derived.Maps.AppendAt
namespace Go.Proofs.Ytbobdpklhhkniaa
open Go.RowKit
set_option linter.unusedVariables false

def ivals (L : List Int) : List Value := L.map (Value.int .i64)
theorem ivals_length (L : List Int) : (ivals L).length = L.length := by simp [ivals]
theorem ivals_snoc (L : List Int) (x : Int) : ivals L ++ [.int .i64 x] = ivals (L ++ [x]) := by simp [ivals]
theorem Try.info64 : (Try.prog.info? 3).map (fun i => (i.zero, i.size, i.bytes)) = some (some (.int .i64 0), 1, 8) := by kernel_rfl

theorem Sl.drop {w : World} {b off n cap : Nat} {f : Nat → Int} (h : Sl w (some ⟨b, off, none⟩) n cap f) (k : Nat) (hk : k < n) : Sl w (some ⟨b, off + k, none⟩) (n - k) (cap - k) (Utf.sh f k) := by
  have h1 := h.le
  have h2 := h.mx
  refine ⟨by omega, by omega, fun i => h.bd _, fun e => absurd e (by simp), fun h0 => ?_⟩
  obtain ⟨b', off', e, hlt, hc⟩ := h.at' (by omega)
  cases e
  refine ⟨b, off + k, rfl, hlt, fun i hi => ?_⟩
  rw [Nat.add_assoc]
  exact hc (k + i) (by omega)

/-- What the loop of Points keeps. -/
def PtsRel (w : World) (f : Nat → Int) (n : Nat) (wr : World) (v : Value) (pos : Nat) : Prop :=
  ∃ L : List Int, wr.ownsRow w.heap.size 3 1 v L.length (ivals L) ∧ Below w.heap.size w wr ∧ L ++ Utf.pts (Utf.sh f pos) (n - pos) = Utf.pts f n ∧ L.length ≤ pos

set_option maxHeartbeats 1000000 in
theorem points_calls (a : Option Addr) (n cap : Nat) (f : Nat → Int) (w : World) (h : Sl w a n cap f) (hn : n ≤ 100000) :
    Calls Try.prog 13 #[.slice a n cap] w fun e w' => ∃ v, e = .returned v ∧ w'.ownsRow w.heap.size 3 1 v (Utf.pts f n).length (ivals (Utf.pts f n)) ∧ Below w.heap.size w w' := by
  obtain ⟨i, hi, hz0, hz1, hz2⟩ := info_parts Try.info64
  have H := hid h
  have hle := h.le
  have hmx := h.mx
  unfold maxLen at hmx
  clear h
  go_enter Try.func13, Try.ntmps13
  go_wp2_with fail
  go_loopg [3, 4] n (fun k v at' wr => ∃ pos : Nat, k = n - pos ∧ pos ≤ n ∧ at' = .int .i64 pos ∧ Hid (PtsRel w f n wr v pos))
  case atStart => exact ⟨0, by omega, by omega, rfl, [], World.ownsRow_nil _ _ _ _, Below.refl _ _, by rw [Utf.sh_zero]; rfl, by simp⟩
  case round =>
    obtain ⟨pos, rfl, hpos, rfl, HR⟩ := hrel
    by_cases hlt : pos < n
    · obtain ⟨b, off, rfl, _, _⟩ := H.out.at' (by omega)
      have hlt' : (pos : Int) < n := by omega
      have hlc : (pos : Int) < cap := by omega
      obtain ⟨L, hown, hbel, hL, hLp⟩ := HR.out
      clear HR
      have HL := hid hL
      clear hL
      have hst := Utf.step_true (f := Utf.sh f pos) (n := n - pos) (by omega)
      have hps := Utf.pts_step (Utf.sh f pos) (n := n - pos) (by omega)
      have SL := hid ((H.out.below hbel).drop pos hlt)
      obtain ⟨⟨p, m, mo⟩, hd⟩ : ∃ d, Utf.dec (Utf.sh f pos) (n - pos) true = d := ⟨_, rfl⟩
      rw [hd] at hst hps
      generalize Utf.stepN (Utf.sh f pos) (n - pos) true = st at hst hps
      obtain ⟨hmo, h1, h2, hm⟩ := hst
      simp only at hmo hm hps
      subst hmo
      subst hm
      have HD := hid hd
      have HP := hid hps
      clear hd hps
      go_wp2_with fail
      refine (decode_calls _ _ _ _ true _ SL.out).mono ?_
      rintro e wr ⟨rfl, rfl⟩
      rw [HD.out]
      unfold D3
      have hl2 := hLp
      go_wp2_with (at_builtin; refine wpList_append_own _ rfl _ _ 35 rfl w.heap.size 3 i (.int .i64 0) 1 8 Try.underlying35 hi hz0 hz1 hz2 rfl (by omega) u3 L.length (ivals L) rfl (hown.alloc _) ⟨wr.heap.size, 0, none⟩ 1 1 [.int .i64 p] rfl rfl (cell_one_new _ _ _) (by simp [Value.oneCell']) (by unfold maxLen; omega) (by omega) (by have := hbel.size; simp; omega) ?_)
      intro v' w' ho' hg' _
      rw [ivals_snoc] at ho'
      have bel' : Below w.heap.size w w' := (hbel.alloc hbel.size _).grown hg' (by have := hbel.size; simp; omega) (fun k hk => (hown.lt k hk).1)
      go_wp2_with fail
      go_roundg (n - (pos + st))
      case measure => omega
      case rel =>
        refine ⟨pos + st, rfl, by omega, by go_num, L ++ [p], ?_, bel', ?_, by simp; omega⟩
        · simpa using ho'
        · rw [← HL.out, HP.out, Utf.sh_sh, List.append_assoc, show n - (pos + st) = n - pos - st by omega]; rfl
    · obtain rfl : pos = n := by omega
      obtain ⟨L, hown, hbel, hL, hLp⟩ := HR.out
      clear HR
      rw [Nat.sub_self, Utf.pts_zero, List.append_nil] at hL
      subst hL
      go_wp2_with fail
      go_ret
      exact ⟨_, rfl, hown, hbel⟩

set_option maxHeartbeats 1000000 in
theorem rest_calls (a : Option Addr) (n cap : Nat) (f : Nat → Int) (w : World) (h : Sl w a n cap f) :
    Calls Try.prog 15 #[.slice a n cap] w fun e w' => e = .returned (.int .i64 (Utf.rest f n)) ∧ w' = w := by
  have H := hid h
  have hle := h.le
  have hmx := h.mx
  unfold maxLen at hmx
  clear h
  go_enter Try.func15, Try.ntmps15
  go_wp2_with fail
  go_loopg [3] n (fun k at' wr => ∃ pos : Nat, k = n - pos ∧ pos ≤ n ∧ at' = .int .i64 pos ∧ wr = w ∧ Hid (Utf.rest (Utf.sh f pos) (n - pos) = Utf.rest f n))
  case atStart => exact ⟨0, by omega, by omega, rfl, rfl, by rw [Utf.sh_zero]; rfl⟩
  case round =>
    obtain ⟨pos, rfl, hpos, rfl, rfl, HR⟩ := hrel
    by_cases hlt : pos < n
    · obtain ⟨b, off, rfl, _, _⟩ := H.out.at' (by omega)
      have hlt' : (pos : Int) < n := by omega
      have hlc : (pos : Int) < cap := by omega
      have SL := hid (H.out.drop pos hlt)
      cases hm : (Utf.dec (Utf.sh f pos) (n - pos) false).2.2
      · have hst := Utf.step_false (f := Utf.sh f pos) (n := n - pos) (by omega) hm
        have hr := Utf.rest_step (Utf.sh f pos) (n := n - pos) (by omega) hm
        obtain ⟨⟨p, m, mo⟩, hd⟩ : ∃ d, Utf.dec (Utf.sh f pos) (n - pos) false = d := ⟨_, rfl⟩
        rw [hd] at hst hm
        generalize Utf.stepN (Utf.sh f pos) (n - pos) false = st at hst hr
        obtain ⟨h1, h2, hm'⟩ := hst
        simp only at hm' hm
        subst hm
        subst hm'
        have HD := hid hd
        have HP := hid hr
        clear hd hr
        go_wp2_with fail
        refine (decode_calls _ _ _ _ false _ SL.out).mono ?_
        rintro e wr ⟨rfl, rfl⟩
        rw [HD.out]
        unfold D3
        go_wp2_with fail
        go_roundg (n - (pos + st))
        case measure => omega
        case rel =>
          refine ⟨pos + st, rfl, by omega, by go_num, rfl, ?_⟩
          show _ = _
          rw [← HR.out, HP.out, Utf.sh_sh, show n - (pos + st) = n - pos - st by omega]
      · have hr := Utf.rest_more (Utf.sh f pos) (n := n - pos) (by omega) hm
        obtain ⟨⟨p, m, mo⟩, hd⟩ : ∃ d, Utf.dec (Utf.sh f pos) (n - pos) false = d := ⟨_, rfl⟩
        rw [hd] at hm
        simp only at hm
        subst hm
        have HD := hid hd
        have HP := hid (HR.out.symm.trans hr)
        clear hd hr
        go_wp2_with fail
        refine (decode_calls _ _ _ _ false _ SL.out).mono ?_
        rintro e wr ⟨rfl, rfl⟩
        rw [HD.out]
        unfold D3
        go_wp2_with fail
        go_ret
        exact ⟨ret_int (by rw [HP.out]; omega), rfl⟩
    · obtain rfl : pos = n := by omega
      have HP := hid (HR.out.symm.trans (by rw [Nat.sub_self, Utf.rest_zero]))
      go_wp2_with fail
      go_ret
      exact ⟨ret_int (by rw [HP.out]; rfl), rfl⟩
end Go.Proofs.Ytbobdpklhhkniaa
