/-
  Stage 12's law: usual, great, same, cut.
-/
import Derived.Test.YtlomdihpdaealaaDoorScW6
import Derived.Test.YtlomdihpdaealaaDoorLotC
import Derived.Test.YtlomdihpdaealaaDoorTs
import Derived.Test.YtlomdihpdaealaaDoorLotG
import Derived.Test.YtlomdihpdaealaaDoorLotV
namespace Go.Proofs.YtlomdihpdaealaaDoor
open Go.RowKit
set_option linter.unusedVariables false
/-- The class of a point by the usual table. -/
def ucl : Int → Int := Cl.of UL UH UC 51
theorem usual12_calls (w : World) :
    Calls Tryd.prog 13 #[] w fun e w' => e = .returned (.slice (some ⟨w.heap.size, 0, none⟩) 51 51) ∧ w' = w.alloc (.cells uCells 58) := by
  go_enter Tryd.func13, Tryd.ntmps13
  go_wp2_with fail
  refine (usual_calls _).mono ?_
  rintro e w1 ⟨rfl, rfl⟩
  obtain ⟨W, hW⟩ : ∃ W, w.alloc (.cells uCells 58) = W := ⟨_, rfl⟩
  rw [hW]
  go_wp2_with fail
  go_ret
  exact ⟨rfl, hW.symm⟩
/-- More than is gone through? -/
def greatB (n m : Nat) : Bool := decide (80 < n ∨ 200 < m)
theorem great_calls {w : World} {a b : Option Addr} {n c m d : Nat} (hn : n ≤ maxLen) (hm : m ≤ maxLen) :
    Calls Tryd.prog 9 #[.slice a n c, .slice b m d] w fun e w' => e = .returned (.bool (greatB n m)) ∧ w' = w := by
  unfold maxLen at hn hm
  by_cases h80 : 80 < n
  · have k1 : (80 : Int) < n := by omega
    have HD := hid (show greatB n m = true from decide_eq_true (.inl h80))
    clear h80
    go_enter Tryd.func9, Tryd.ntmps9
    go_wp2_with fail
    go_ret
    exact ⟨ret_bool HD.out.symm, rfl⟩
  · have k1 : ¬ (80 : Int) < n := by omega
    by_cases h200 : 200 < m
    · have k2 : (200 : Int) < m := by omega
      have HD := hid (show greatB n m = true from decide_eq_true (.inr h200))
      clear h80 h200
      go_enter Tryd.func9, Tryd.ntmps9
      go_wp2_with fail
      go_ret
      exact ⟨ret_bool HD.out.symm, rfl⟩
    · have k2 : ¬ (200 : Int) < m := by omega
      have hdd : decide ((200 : Int) < m) = false := decide_eq_false k2
      have HD := hid (show greatB n m = false from decide_eq_false (by omega))
      clear h80 h200
      go_enter Tryd.func9, Tryd.ntmps9
      go_wp2_with fail
      go_ret
      exact ⟨ret_bool HD.out.symm, rfl⟩
set_option maxHeartbeats 1600000 in
theorem same12_yes {w : World} {a b : Option Addr} {n ca cb : Nat} {xs : List ByteArray} (h1 : Ts w a n ca xs) (h2 : Ts w b n cb xs) (hn : n ≤ 1048576) :
    Calls Tryd.prog 18 #[.slice a n ca, .slice b n cb] w fun e w' => e = .returned (.bool true) ∧ Below w.heap.size w w' := by
  have H1 := hid h1
  have H2 := hid h2
  clear h1 h2
  go_enter Tryd.func18, Tryd.ntmps18
  go_wp2_with fail
  go_loopg [13] n (fun k iv wr => ∃ j d : Nat, k = n - j ∧ j ≤ n ∧ iv = .int .i64 j ∧ wr = w.drewN d)
  case atStart => exact ⟨0, 0, rfl, by omega, rfl, rfl⟩
  case round =>
    obtain ⟨j, d, rfl, hj, rfl, rfl⟩ := hrel
    by_cases hlt : j < n
    · have k1 : (j : Int) < n := by omega
      have k0 : (0 : Int) ≤ j := by omega
      have e2 : IntKind.i64.wrap ((j : Int) + 1) = j + 1 := i64_in (by omega) (by omega)
      obtain ⟨b1, o1, rfl, _, c1⟩ := H1.out.at' (by omega)
      obtain ⟨b2, o2, rfl, _, c2⟩ := H2.out.at' (by omega)
      have q1 := c1 j hlt
      have q2 := c2 j hlt
      obtain ⟨y, hy⟩ : ∃ y, at_ xs j = y := ⟨_, rfl⟩
      rw [hy] at q1 q2
      have hyy : (y.toList == y.toList) = true := beq_self_eq_true _
      clear c1 c2 hy
      go_wp2_with fail
      go_quiet (fail)
      go_wp2_with fail
      go_roundg (n - (j + 1))
      case measure => omega
      case rel => exact ⟨j + 1, d + nq, rfl, by omega, by go_num, rfl⟩
    · have k1 : ¬ (j : Int) < n := by omega
      have HB := hid (below_drewN (Below.refl w.heap.size w) d)
      go_wp2_with fail
      go_ret
      exact ⟨rfl, HB.out⟩
/-! ### cut -/
/-- A text out of its bytes. -/
def bs (l : List Int) : ByteArray := str (fun i => l.getD i 0) l.length
/-- The pieces of bytes. -/
def cutL (cl : Int → Int) (kind : Nat) : Nat → (Nat → Int) → Nat → List (List Int)
  | 0, _, _ => []
  | k + 1, f, n => if n = 0 then [] else (List.range (Sc.next cl kind f n)).map f :: cutL cl kind k (Utf.sh f (Sc.next cl kind f n)) (n - Sc.next cl kind f n)
theorem cutL_len (cl : Int → Int) (kind : Nat) : ∀ (k : Nat) (f : Nat → Int) (n : Nat), (cutL cl kind k f n).length ≤ k
  | 0, _, _ => Nat.le_refl _
  | k + 1, f, n => by
    unfold cutL
    split
    · simp
    · have := cutL_len cl kind k (Utf.sh f (Sc.next cl kind f n)) (n - Sc.next cl kind f n)
      simp only [List.length_cons]
      omega
theorem bs_of {s : ByteArray} {m : Nat} {f : Nat → Int} (h : St s m f) : s = bs ((List.range m).map f) := by
  unfold bs
  have e : ((List.range m).map f).length = m := by simp
  rw [e]
  refine h.inj ((St.of h.bd m).congr h.bd (fun i hi => rfl) |>.congr h.bd (fun i hi => rfl)) |>.trans ?_
  refine (St.of h.bd m).inj ?_
  refine (St.of (f := fun i => ((List.range m).map f).getD i 0) (fun i => ?_) m).congr h.bd (fun i hi => ?_)
  · rw [List.getD_eq_getElem?_getD]
    by_cases hi : i < m
    · simp [hi]; exact h.bd i
    · simp [hi]
  · simp [List.getD_eq_getElem?_getD, hi]
theorem urg (w : World) (p : Int) : 0 ≤ ucl p ∧ ucl p ≤ 4 := Dt.cl_rg ⟨0, w, none, 51, 51, UL, UH, UC, 0, 0, 0, 0, fun _ => 0⟩ uMay p
theorem uUs (w : World) : Sc.Us ucl :=
  ⟨urg w, by decide +kernel, by decide +kernel, by decide +kernel, fun x b h => by
    have hb : b = 114 ∨ b = 118 ∨ b = 108 ∨ b = 82 ∨ b = 86 ∨ b = 76 := by
      unfold Sc.two Sc.eqw at h
      simp only [Bool.or_eq_true, Bool.and_eq_true, beq_iff_eq] at h
      omega
    rcases hb with rfl | rfl | rfl | rfl | rfl | rfl <;> decide +kernel, by decide +kernel, by decide +kernel, by decide +kernel, by decide +kernel⟩
/-- A piece of the usual table, nothing behind. -/
theorem unx_fin {kind : Nat} (hk : kind = 1 ∨ kind = 2 ∨ kind = 3) {f : Nat → Int} {n : Nat} (hn : 0 < n) : Sc.nx (Cl.of UL UH UC 51) (Cl.may UL UH UC 51) (kind : Int) f n true = (Sc.next ucl kind f n, true) := by
  rw [Sc.nx_kind (fun e => e.elim (by omega) (fun e => by rw [uMay] at e; cases e)) hk]
  rfl
set_option maxRecDepth 100000 in
set_option maxHeartbeats 3200000 in
theorem cut_calls {w : World} {s : ByteArray} {n : Nat} {f : Nat → Int} (hS : St s n f) (hn : n ≤ 1000) (hE : Ends w) (kind : Nat) (hk : kind = 1 ∨ kind = 2 ∨ kind = 3) :
    Calls Tryd.prog 19 #[.int .i64 (kind : Int), .string s] w fun e w' => (∃ a m c, e = .returned (.slice a m c) ∧ Ts w' a m c ((cutL ucl kind n f n).map bs)) ∧ Below w.heap.size w w' := by
  have hst : (Tryd.prog.info? 9).map (fun i => (i.zero, i.size, i.bytes)) = some (some (.string ⟨#[]⟩), 1, 16) := by kernel_rfl
  obtain ⟨i0, hi0, hz0, hz1, hz2⟩ := info_parts hst
  have HS0 := hid hS
  have HE0 := hid hE
  have HK := hid hk
  have HL := hid (cutL_len ucl kind n f n)
  clear hS hE hk hst
  go_enter Tryd.func19, Tryd.ntmps19
  go_wp2_with fail
  go_loopg [1, 5] n (fun r sv ov wr => ∃ (pos : Nat) (s' : ByteArray) (xs : List (List Int)) (a : Option Addr) (m c k : Nat), r = n - pos ∧ pos ≤ n ∧ sv = .string s' ∧ ov = .slice a m c ∧ m ≤ pos ∧ Hid (St s' (n - pos) (Utf.sh f pos)) ∧ Hid (wr.ownsRow w.heap.size 9 1 (.slice a m c) m (tv (xs.map bs))) ∧ Hid (n - pos ≤ k ∧ xs ++ cutL ucl kind k (Utf.sh f pos) (n - pos) = cutL ucl kind n f n) ∧ Hid (Below w.heap.size w wr))
  case atStart => exact ⟨0, s, [], some ⟨w.heap.size, 0, none⟩, 0, 0, n, rfl, Nat.zero_le _, rfl, rfl, Nat.zero_le _, by rw [Utf.sh_zero]; exact HS0, hid (World.ownsRow_lit w #[] 0 (Nat.le_refl _) (by decide) rfl), hid ⟨by omega, by rw [Utf.sh_zero]; rfl⟩, hid ((Below.refl _ _).alloc (Nat.le_refl _) _)⟩
  case round =>
    obtain ⟨pos, s', xs, a, m, c, k, rfl, hpos, rfl, rfl, hmp, HS, HO, HC, HB⟩ := hrel
    have hsz := HS.out.size
    by_cases hlt : pos < n
    · have hne := HS.out.isEmpty_no (by omega)
      go_wp2_with fail
      refine (usual12_calls _).mono ?_
      rintro e w1 ⟨rfl, rfl⟩
      have bu := (Below.refl wr.heap.size wr).alloc (Nat.le_refl _) (.cells uCells 58)
      have R1 := hid (uRs wr 58 wr.heap.size rfl)
      have HB1 := hid (HB.out.trans (bu.mono HB.out.size))
      have HO1 := hid (own_below HO.out bu)
      obtain ⟨W1, hW1⟩ : ∃ W, wr.alloc (.cells uCells 58) = W := ⟨_, rfl⟩
      obtain ⟨T0, hT0⟩ : ∃ T, wr.heap.size = T := ⟨_, rfl⟩
      rw [hW1] at R1 HB1 HO1 ⊢
      rw [hT0] at R1 ⊢
      clear bu hW1 hT0 HB HO
      obtain ⟨cc, W2, hcv, S2, b2, _⟩ := conv_bytes (P := Tryd.prog) W1 9 23 5 Tryd.underlying9 Tryd.underlying23 Tryd.underlying5 HS.out (by unfold maxLen; omega)
      have HS2 := hid S2
      have HB2 := hid (HB1.out.trans (b2.mono HB1.out.size))
      have HO2 := hid (own_below HO1.out b2)
      have R2 := hid (R1.out.below b2)
      have HE2 := hid (HE0.out.below HB2.out (Nat.le_refl _))
      have HNX := hid (unx_fin (kind := kind) HK.out (f := Utf.sh f pos) (n := n - pos) (by omega))
      have hN1 := Sc.next_pos (cl := ucl) (kind := kind) (urg w) (f := Utf.sh f pos) (n := n - pos) (by omega)
      have hN2 := Sc.next_le (cl := ucl) (kind := kind) (Utf.sh f pos) (n - pos)
      obtain ⟨N, hN⟩ : ∃ N, Sc.next ucl kind (Utf.sh f pos) (n - pos) = N := ⟨_, rfl⟩
      have HN := hid hN
      rw [hN] at HNX hN1 hN2
      clear S2 b2 HB1 HO1 R1 hN
      go_wp2_with fail
      refine (next_calls (kind : Int) R2.out HS2.out (by omega) HE2.out true).mono ?_
      rintro e w3 ⟨rfl, b3⟩
      rw [HNX.out]
      unfold NX
      have HB3 := hid (HB2.out.trans (b3.mono HB2.out.size))
      have HO3 := hid (own_below HO2.out b3)
      have HX := hid (show s'.extract 0 N = bs ((List.range N).map (Utf.sh f pos)) from bs_of (by have h := HS.out.extract 0 N (Nat.zero_le _) (by omega); rw [Nat.sub_zero] at h; exact h.congr (fun i => HS.out.bd i) (fun i hi => by rw [Nat.zero_add])))
      clear hcv b3 HB2 HO2
      have k1 : ¬ (N : Int) < 1 := by omega
      have k2 : ¬ (s'.size : Int) < N := by omega
      have k3 : (N : Int) ≤ s'.size := by omega
      have k4 : (0 : Int) ≤ N := by omega
      go_wp2_with (at_builtin; refine wpList_append_src rfl _ _ 35 rfl w.heap.size 9 i0 _ 1 16 Tryd.underlying35 hi0 hz0 hz1 hz2 rfl (by decide) (.slice a m c) m (tv (xs.map bs)) rfl (HO3.out.alloc _) (some ⟨w3.heap.size, 0, none⟩) 1 1 [.string (s'.extract 0 N)] rfl (Src.new #[.string (s'.extract 0 N)] 9 _ rfl rfl (fun u hu => by simp at hu; subst hu; rfl)) (by unfold maxLen; omega) (by omega) (by have := HB3.out.size; simp; omega) ?_)
      intro v4 w4 o4 g4 b4
      have hto : tv (xs.map bs) ++ [.string (s'.extract 0 N)] = tv ((xs ++ [(List.range N).map (Utf.sh f pos)]).map bs) := by rw [HX.out]; simp [tv]
      rw [hto] at o4
      obtain ⟨a5, c5, rfl, _⟩ := Ts.ofOwn o4
      have HO5 := hid o4
      have HB5 := hid ((HB3.out.alloc HB3.out.size (.cells #[.string (s'.extract 0 N)] 9)).grown g4 (by have := HB3.out.size; simp; omega) (fun k hk => (HO3.out.lt k hk).1))
      have HC5 := hid (show n - (pos + N) ≤ k - 1 ∧ (xs ++ [(List.range N).map (Utf.sh f pos)]) ++ cutL ucl kind (k - 1) (Utf.sh f (pos + N)) (n - (pos + N)) = cutL ucl kind n f n from by
        obtain ⟨h1, h2⟩ := HC.out
        refine ⟨by omega, ?_⟩
        rw [← h2]
        obtain ⟨k', rfl⟩ : ∃ k', k = k' + 1 := ⟨k - 1, by omega⟩
        conv => rhs; unfold cutL
        rw [if_neg (by omega), HN.out, Utf.sh_sh, List.append_assoc, show n - pos - N = n - (pos + N) by omega]
        rfl)
      clear o4 g4 b4 hto
      go_wp2_with fail
      go_roundg (n - (pos + N))
      case measure => omega
      case rel => exact ⟨pos + N, _, xs ++ [(List.range N).map (Utf.sh f pos)], a5, m + 1, c5, k - 1, rfl, by omega, rfl, rfl, by omega, hid (St.tail HS.out (by omega) (by omega)), HO5, HC5, HB5⟩
    · obtain rfl : pos = n := by omega
      have hS := HS.out
      rw [Nat.sub_self] at hS
      have hne := hS.isEmpty_yes
      have HF := hid (show xs = cutL ucl kind pos f pos from by
        have h := HC.out.2
        rw [Nat.sub_self] at h
        rw [← h]
        cases k <;> simp [cutL])
      clear hS
      go_wp2_with fail
      go_ret
      refine ⟨⟨_, _, _, rfl, ?_⟩, HB.out⟩
      rw [← HF.out]
      exact Ts.ofOwn' HO.out
/-! ### the chapter's examples -/
def exI : List Int := [73, 39, 108, 108, 32, 103, 111]
def exA : List Int := [97, 32, 32, 98]
def exW : List Int := [97, 32, 49, 50, 51, 52, 53, 10, 10, 32, 98]
theorem cutI : cutL ucl 2 7 (fun i => exI.getD i 0) 7 = [[73], [39, 108, 108], [32, 103, 111]] := by decide +kernel
theorem cutA : cutL ucl 2 4 (fun i => exA.getD i 0) 4 = [[97], [32], [32, 98]] := by decide +kernel
theorem cutW : cutL ucl 3 11 (fun i => exW.getD i 0) 11 = [[97], [32], [49, 50, 51], [52, 53], [10, 10], [32, 98]] := by decide +kernel
theorem nxQ : Sc.nx (Cl.of UL UH UC 51) (Cl.may UL UH UC 51) 2 (fun i => ([39, 114] : List Int).getD i 0) 2 false = (1, false) := by decide +kernel
end Go.Proofs.YtlomdihpdaealaaDoor
