/-
  Vocabularies that merge by pairs: what they are; walks of mergesOfPairs and FromTables.
-/
import Derived.Test.YtjpboackbjfenaaVcS6
import Derived.Test.YtjpboackbjfenaaVcF0
import Derived.Test.YtjpboackbjfenaaVcIns
namespace Go.Proofs.Ytjpboackbjfenaa
open Go.RowKit Go.Maps
set_option linter.unusedVariables false

namespace Vc
/-- The merge that a pair makes. -/
def PairAt (ts : Toks) (ps : List (ByteArray × ByteArray)) (i : Nat) (m : Mg4) : Prop :=
  ∃ a b c : Nat, num ts (lat ps i) = some a ∧ num ts (gat ps i) = some b ∧ num ts (lat ps i ++ gat ps i) = some c ∧ m = ((a : Int), (b : Int), (c : Int), (i : Int))
/-- The merges that the first pairs make. -/
structure PairsIs (ts : Toks) (ps : List (ByteArray × ByteArray)) (k : Nat) (ms : List Mg4) : Prop where
  len : ms.length = k
  at' : ∀ i, i < k → PairAt ts ps i (mat ms i)
theorem PairAt.one {ts : Toks} {ps : List (ByteArray × ByteArray)} {i : Nat} {m m' : Mg4} (h : PairAt ts ps i m) (k : PairAt ts ps i m') : m = m' := by
  obtain ⟨a, b, c, h1, h2, h3, rfl⟩ := h
  obtain ⟨a', b', c', k1, k2, k3, rfl⟩ := k
  rw [h1] at k1; rw [h2] at k2; rw [h3] at k3
  cases k1; cases k2; cases k3
  rfl
theorem PairsIs.one {ts : Toks} {ps : List (ByteArray × ByteArray)} {k : Nat} {ms ms' : List Mg4} (h : PairsIs ts ps k ms) (h' : PairsIs ts ps k ms') : ms = ms' :=
  mat_ext (by rw [h.len, h'.len]) (fun i hi => (h.at' i (by rw [← h.len]; exact hi)).one (h'.at' i (by rw [← h.len]; exact hi)))
theorem PairsIs.nil (ts : Toks) (ps : List (ByteArray × ByteArray)) : PairsIs ts ps 0 [] := ⟨rfl, fun i hi => absurd hi (Nat.not_lt_zero _)⟩
theorem PairsIs.snoc {ts : Toks} {ps : List (ByteArray × ByteArray)} {k : Nat} {ms : List Mg4} {m : Mg4} (h : PairsIs ts ps k ms) (hm : PairAt ts ps k m) : PairsIs ts ps (k + 1) (ms ++ [m]) :=
  ⟨by rw [List.length_append, h.len]; rfl, fun i hi => by
    by_cases hk : i < k
    · have e : mat (ms ++ [m]) i = mat ms i := by simp [mat, List.getElem?_append_left (show i < ms.length by rw [h.len]; exact hk)]
      rw [e]; exact h.at' i hk
    · obtain rfl : i = k := by omega
      have e : mat (ms ++ [m]) i = m := by simp [mat, ← h.len]
      rw [e]; exact hm⟩
/-- The vocabulary of tables and specials. -/
structure TabIs (rs : Sps) (ps : List (ByteArray × ByteArray)) (sp : Sps) (ts : Toks) (ms : List Mg4) (sp' : Sps) : Prop where
  ranks : Ranks rs sp
  tok : TokIs rs sp ts
  pairs : PairsIs ts ps ps.length ms
  sps : SpIs sp sp'
  may : May ts ms sp'
theorem TabIs.one {rs sp : Sps} {ps : List (ByteArray × ByteArray)} {ts ts2 : Toks} {ms ms2 : List Mg4} {sp1 sp2 : Sps} (h : TabIs rs ps sp ts ms sp1) (k : TabIs rs ps sp ts2 ms2 sp2) : ts = ts2 ∧ ms = ms2 ∧ sp1 = sp2 := by
  obtain rfl := h.tok.one k.tok
  exact ⟨rfl, h.pairs.one k.pairs, h.sps.one k.sps h.may.S⟩
def NoTab (rs : Sps) (ps : List (ByteArray × ByteArray)) (sp : Sps) : Prop := ¬ ∃ ts ms sp', TabIs rs ps sp ts ms sp'
theorem noTab_ranks {rs sp : Sps} {ps : List (ByteArray × ByteArray)} (h : ¬ Ranks rs sp) : NoTab rs ps sp := fun ⟨_, _, _, k⟩ => h k.ranks
theorem noTab_tok {rs sp : Sps} {ps : List (ByteArray × ByteArray)} {ts : Toks} (h1 : TokIs rs sp ts) (h : ¬ MayT ts) : NoTab rs ps sp := fun ⟨_, _, _, k⟩ => h (by rw [h1.one k.tok]; exact k.may.T)
theorem noTab_pair {rs sp : Sps} {ps : List (ByteArray × ByteArray)} {ts : Toks} {i : Nat} (h1 : TokIs rs sp ts) (hi : i < ps.length) (h : ∀ m, ¬ PairAt ts ps i m) : NoTab rs ps sp := fun ⟨_, _, _, k⟩ => by
  obtain rfl := h1.one k.tok
  exact h _ (k.pairs.at' i hi)
theorem noTab_may {rs sp : Sps} {ps : List (ByteArray × ByteArray)} {ts : Toks} {ms : List Mg4} {sp' : Sps} (h1 : TokIs rs sp ts) (h2 : PairsIs ts ps ps.length ms) (h3 : SpIs sp sp') (h : ¬ May ts ms sp') : NoTab rs ps sp := fun ⟨_, _, _, k⟩ => by
  obtain rfl := h1.one k.tok
  obtain rfl := h2.one k.pairs
  exact h (by rw [← k.sps.one h3 k.may.S]; exact k.may)
end Vc

/-- What mergesOfPairs answers. -/
def MpOut (M : Nat) (ts : Vc.Toks) (ps : List (ByteArray × ByteArray)) (e : Ending) (w' : World) : Prop :=
  (∃ am nm cm ms, Vc.PairsIs ts ps ps.length ms ∧ Hi M am ∧ e = .returned (.tuple #[.slice am nm cm, .bool true]) ∧ Qw w' am nm cm ms) ∨
  ((∃ i, i < ps.length ∧ ∀ m, ¬ Vc.PairAt ts ps i m) ∧ e = .returned (.tuple #[.slice none 0 0, .bool false]))

set_option maxRecDepth 100000 in
set_option maxHeartbeats 6400000 in
theorem mergesOfPairs_calls {w : World} {a b : Option Addr} {n c m e : Nat} {ts : Vc.Toks} {ps : List (ByteArray × ByteArray)} (V : Ts w a n c ts) (U : Pw w b m e ps) (hT : Vc.MayT ts) (hz : ∀ i, i < ps.length → (lat ps i).size ≤ 80 ∧ (gat ps i).size ≤ 80) (hm : m ≤ 1000000) :
    Calls Try.prog 38 #[.slice a n c, .slice b m e] w fun e w' => MpOut w.heap.size ts ps e w' ∧ Below w.heap.size w w' := by
  have hl := V.len
  have hlp := U.len
  have hn : n ≤ 4096 := by rw [← hl]; exact hT.len
  have TW := hid V
  have UW := hid U
  have HT := hid hT
  have HP := hid hz
  have HZ := hid (show ∀ i, i < n → (at_ ts i).size ≤ 64 from fun i hi => hT.sz i (by omega))
  clear V U hT hz
  obtain ⟨i0, hi, hz0, hz1, hz2⟩ := info_parts Try.infoMg
  go_enter Try.func38, Try.ntmps38
  go_wp2_with fail
  refine (numbersOf_calls TW.out hn (fun i hi => Nat.le_trans (HZ.out i hi) (by decide))).mono ?_
  rintro e w1 ⟨rfl, hN, b1⟩
  have HN := hid hN
  have B1 := hid b1
  have hM := hN.lt
  clear hN b1
  obtain ⟨M, hMM⟩ : ∃ M, w1.heap.size = M := ⟨_, rfl⟩
  have hM1 : w.heap.size < M := by omega
  go_wp2_with fail
  go_loopg [7, 20] m (fun r mvv iv wr => ∃ (j : Nat) (v : Value) (ms : List Mg4), r = m - j ∧ v = mvv ∧ iv = .int .i64 (j : Int) ∧ j ≤ m ∧ Hid (Vc.PairsIs ts ps j ms) ∧ Hid (wr.ownsRow M 54 4 v j (mv ms)) ∧ Hid (NumsIn wr w.heap.size ts n) ∧ Hid (Below w.heap.size w wr) ∧ M ≤ wr.heap.size)
  case atStart => exact ⟨0, _, [], rfl, rfl, rfl, by omega, hid (Vc.PairsIs.nil ts ps), hid ⟨by simp [mv], .inl ⟨rfl, rfl⟩⟩, HN, B1, by omega⟩
  case round =>
    obtain ⟨j, v, ms, rfl, rfl, rfl, hj, HI, HO, HM, HB, hMr⟩ := hrel
    by_cases hlt : j < m
    · have l0 : (0 : Int) ≤ j := by omega
      have l1 : (j : Int) < m := by omega
      have l2 : IntKind.i64.wrap ((j : Int) + 1) = j + 1 := i64_in (by omega) (by omega)
      obtain ⟨b0, off, rfl, hbl, hc⟩ := (UW.out.below HB.out).at' (by omega)
      obtain ⟨p1, p2⟩ := hc j hlt
      obtain ⟨hz1', hz2'⟩ := HP.out j (by omega)
      obtain ⟨s, hs⟩ : ∃ t, lat ps j = t := ⟨_, rfl⟩
      obtain ⟨t, ht⟩ : ∃ t, gat ps j = t := ⟨_, rfl⟩
      rw [hs] at p1 hz1'
      rw [ht] at p2 hz2'
      have HS := hid hs
      have HTt := hid ht
      clear hc hs ht
      have HM2 := hid (HM.out.alloc (.cells #[.string s, .string t] 58))
      have B2 := hid (HB.out.alloc HB.out.size (.cells #[.string s, .string t] 58))
      have hst : ¬ 9223372036854775807 < s.size + t.size := by omega
      obtain ⟨c1, t1, lk1, cs1⟩ := HM2.out.num hl s (by unfold maxLen; omega)
      obtain ⟨c2, t2, lk2, cs2⟩ := HM2.out.num hl t (by unfold maxLen; omega)
      obtain ⟨c3, t3, lk3, cs3⟩ := HM2.out.num hl (s ++ t) (by rw [ByteArray.size_append]; unfold maxLen; omega)
      rcases cs1 with ⟨rfl, k1, rfl, n1⟩ | ⟨rfl, n1⟩
      · rcases cs2 with ⟨rfl, k2, rfl, n2⟩ | ⟨rfl, n2⟩
        · rcases cs3 with ⟨rfl, k3, rfl, n3⟩ | ⟨rfl, n3⟩
          · have HA := hid (show Vc.PairAt ts ps j ((k1 : Int), (k2 : Int), (k3 : Int), (j : Int)) from ⟨k1, k2, k3, by rw [HS.out]; exact n1, by rw [HTt.out]; exact n2, by rw [HS.out, HTt.out]; exact n3, rfl⟩)
            clear n1 n2 n3
            have OB := hid (own_at HO.out)
            go_wp2_with (at_builtin; refine wpList_append_src rfl _ _ 23 rfl M 54 i0 (.agg #[.int .i64 0, .int .i64 0, .int .i64 0, .int .i64 0]) 4 32 Try.underlying23 hi hz0 hz1 hz2 rfl (by decide) _ j _ rfl ((HO.out.alloc _).alloc _) (some ⟨wr.heap.size + 1, 0, none⟩) 1 1 [.int .i64 (k1 : Int), .int .i64 (k2 : Int), .int .i64 (k3 : Int), .int .i64 (j : Int)] rfl (Src.new #[.int .i64 (k1 : Int), .int .i64 (k2 : Int), .int .i64 (k3 : Int), .int .i64 (j : Int)] _ (wr.heap.size + 1) (by simp) rfl (fun u hu => by simp at hu; rcases hu with rfl | rfl | rfl | rfl <;> rfl)) (by unfold maxLen; omega) (by omega) (by simp; omega) ?_; intro v3 w3 own gr loc; have O3 := hid own; have G3 := hid gr; clear own gr loc)
            go_roundg (m - (j + 1))
            case measure => omega
            case rel =>
              refine ⟨j + 1, v3, ms ++ [((k1 : Int), (k2 : Int), (k3 : Int), (j : Int))], rfl, rfl, by go_num, by omega, hid (HI.out.snoc HA.out), hid ?_, hid ((HM2.out.alloc _).kept G3.out (fun h => by have := OB.out _ h.symm; omega)), hid ((B2.out.alloc B2.out.size _).grown G3.out (by have := B2.out.size; simp at this ⊢; omega) (fun q hq => by have := OB.out q hq; omega)), by have := G3.out.size; simp at this; omega⟩
              rw [← mv_snoc]
              exact O3.out
          · have HNo := hid (show ∃ i, i < ps.length ∧ ∀ m, ¬ Vc.PairAt ts ps i m from ⟨j, by omega, fun m ⟨_, _, _, _, _, h, _⟩ => by rw [HS.out, HTt.out, n3] at h; cases h⟩)
            clear n1 n2 n3
            go_wp2_with fail
            go_ret2
            exact ⟨.inr ⟨HNo.out, rfl⟩, B2.out⟩
        · have HNo := hid (show ∃ i, i < ps.length ∧ ∀ m, ¬ Vc.PairAt ts ps i m from ⟨j, by omega, fun m ⟨_, _, _, _, h, _, _⟩ => by rw [HTt.out, n2] at h; cases h⟩)
          clear n1 n2 cs3
          go_wp2_with fail
          go_ret2
          exact ⟨.inr ⟨HNo.out, rfl⟩, B2.out⟩
      · have HNo := hid (show ∃ i, i < ps.length ∧ ∀ m, ¬ Vc.PairAt ts ps i m from ⟨j, by omega, fun m ⟨_, _, _, h, _, _, _⟩ => by rw [HS.out, n1] at h; cases h⟩)
        clear n1 cs2 cs3
        go_wp2_with fail
        go_ret2
        exact ⟨.inr ⟨HNo.out, rfl⟩, B2.out⟩
    · have hjm : j = ps.length := by omega
      have k1 : ¬ ((j : Int) < m) := by omega
      obtain ⟨am, cm, rfl, hq⟩ := Qw.ofOwn HO.out
      have HQ := hid hq
      have HH := hid ((hi_own HO.out).mono (show w.heap.size ≤ M by omega))
      have HI2 := hid (show Vc.PairsIs ts ps ps.length ms from hjm ▸ HI.out)
      clear hq hjm
      go_wp2_with fail
      go_ret2
      exact ⟨.inl ⟨am, _, cm, ms, HI2.out, HH.out, rfl, HQ.out⟩, HB.out⟩

/-- What FromTables answers. -/
def FtOut (rs : Vc.Sps) (ps : List (ByteArray × ByteArray)) (sp : Vc.Sps) (e : Ending) (w' : World) : Prop :=
  (∃ ts ms sp' a n c am nm cm az ns cs, Vc.TabIs rs ps sp ts ms sp' ∧ e = .returned (.tuple #[.agg #[.slice a n c, .slice am nm cm, .slice az ns cs], .int .i64 0]) ∧ Vo w' a n c am nm cm az ns cs ts ms sp') ∨
  (Vc.NoTab rs ps sp ∧ e = .returned (.tuple #[.agg #[.slice none 0 0, .slice none 0 0, .slice none 0 0], .int .i64 2]))

set_option maxRecDepth 100000 in
set_option maxHeartbeats 6400000 in
theorem fromTables_calls {w : World} {a b az : Option Addr} {n c m d ns cs : Nat} {rs sp : Vc.Sps} {ps : List (ByteArray × ByteArray)} (V : Rw w a n c rs) (U : Pw w b m d ps) (Q : Rw w az ns cs sp) (hz : ∀ i, i < rs.length → (tat rs i).size ≤ maxLen) (hpz : ∀ i, i < ps.length → (lat ps i).size ≤ 80 ∧ (gat ps i).size ≤ 80) (hm : m ≤ 1000000) (hns : ns ≤ 1000000) :
    Calls Try.prog 17 #[.agg #[.slice a n c, .slice b m d], .slice az ns cs] w fun e w' => FtOut rs ps sp e w' ∧ Below w.heap.size w w' := by
  have A0 := hid ((Bx2.new w 42 (.slice a n c) (.slice b m d)).alloc (.cells #[.slice none 0 0, .slice none 0 0, .slice none 0 0] 26))
  have B0 := hid (((Below.refl w.heap.size w).alloc (Nat.le_refl _) (.cells #[.slice a n c, .slice b m d] 42)).alloc (by simp) (.cells #[.slice none 0 0, .slice none 0 0, .slice none 0 0] 26))
  have R0 := hid (Bx3.new (w.alloc (.cells #[.slice a n c, .slice b m d] 42)) 26 (.slice none 0 0) (.slice none 0 0) (.slice none 0 0))
  rw [show (w.alloc (.cells #[.slice a n c, .slice b m d] 42)).heap.size = w.heap.size + 1 by simp] at R0
  have s0 : ((w.alloc (.cells #[.slice a n c, .slice b m d] 42)).alloc (.cells #[.slice none 0 0, .slice none 0 0, .slice none 0 0] 26)).heap.size = w.heap.size + 2 := by simp
  have V0 := hid (V.below B0.out)
  have U0 := hid (U.below B0.out)
  have Q0 := hid (Q.below B0.out)
  have HZ := hid hz
  have HPz := hid hpz
  clear V U Q hz hpz
  obtain ⟨W, hW⟩ : ∃ W, (w.alloc (.cells #[.slice a n c, .slice b m d] 42)).alloc (.cells #[.slice none 0 0, .slice none 0 0, .slice none 0 0] 26) = W := ⟨_, rfl⟩
  rw [hW] at A0 B0 R0 s0 V0 U0 Q0
  have a0 := A0.out.cell0
  go_enter Try.func17, Try.ntmps17
  go_wp2_with fail
  try rw [hW]
  clear hW
  go_wp2_with fail
  refine (unmerged_calls V0.out Q0.out HZ.out hns).mono ?_
  rintro e w1 ⟨E1, b1⟩
  have R1 := hid (R0.out.below b1 R0.out.lt)
  have A1 := hid (A0.out.below b1 A0.out.lt)
  have U1 := hid (U0.out.below b1)
  have B1 := hid (B0.out.trans (b1.mono B0.out.size))
  have hw1 := b1.size
  rw [s0] at E1 hw1
  clear b1 B0 R0 V0 U0 Q0 A0 a0
  rcases E1 with ⟨hR, ts, sp', bb, z1, zn, zc, ⟨hb, hzh⟩, hT, hM, hS, rfl, hTs, hRs⟩ | ⟨hno, rfl⟩
  · have HR := hid hR
    have HT := hid hT
    have HM := hid hM
    have HS := hid hS
    have T1 := hid hTs
    have Q1 := hid hRs
    have HH := hid hzh
    have Hb := hid (show Hi (w.heap.size + 2) (some ⟨bb, 0, none⟩) from hi_some hb)
    clear hR hT hM hS hTs hRs hzh hb
    obtain ⟨N, hN⟩ : ∃ N, ts.length = N := ⟨_, rfl⟩
    have HN := hid hN
    rw [hN] at T1 ⊢
    clear hN
    have X2 := hid (Bx3.new w1 26 (.slice (some ⟨bb, 0, none⟩) N N) (.slice none 0 0) (.slice z1 zn zc))
    have B12 := hid ((Below.refl w1.heap.size w1).alloc (Nat.le_refl _) (.cells #[.slice (some ⟨bb, 0, none⟩) N N, .slice none 0 0, .slice z1 zn zc] 26))
    have s1 : (w1.alloc (.cells #[.slice (some ⟨bb, 0, none⟩) N N, .slice none 0 0, .slice z1 zn zc] 26)).heap.size = w1.heap.size + 1 := by simp
    have A2 := hid (A1.out.below B12.out A1.out.lt)
    have x0 := X2.out.cell0
    have a1 := A2.out.cell1
    go_wp2_with fail
    refine (mergesOfPairs_calls (T1.out.below B12.out) (U1.out.below B12.out) HM.out HPz.out hm).mono ?_
    rintro e w2 ⟨E2, b2⟩
    have X3 := hid (X2.out.below b2 X2.out.lt)
    have B2 := hid (B12.out.trans (b2.mono (by rw [s1]; omega)))
    have hw2 := b2.size
    rw [s1] at hw2 E2
    clear b2 X2 B12 x0 A2 a1 A1
    have y0 := X3.out.cell0
    have y1 := X3.out.cell1
    have y2 := X3.out.cell2
    have f1 := X3.out.fr 1
    rcases E2 with ⟨am, nm, cm, ms, hC, hmh, rfl, hQ⟩ | ⟨⟨i, hi, hno⟩, rfl⟩
    · have HC := hid hC
      have Q2 := hid hQ
      have HMh := hid hmh
      clear hC hQ hmh
      have X4 := hid (X3.out.set1 (.slice am nm cm))
      have z0 := X4.out.cell0
      have z1' := X4.out.cell1
      have z2 := X4.out.cell2
      have B3 := hid (B2.out.setCell (p := ⟨w1.heap.size, 1, none⟩) (Nat.le_refl _) (.slice am nm cm))
      have R3 := hid (R1.out.below B3.out R1.out.lt)
      have BW := hid (B1.out.trans (B3.out.mono B1.out.size))
      have Q3 := hid (Q2.out.mut (Mut.set w2 w1.heap.size 1 (.slice am nm cm) (S := fun i => i = w1.heap.size) rfl) HMh.out (fun i hi => by omega))
      have V3 := hid (show Vo (w2.setCell ⟨w1.heap.size, 1, none⟩ (.slice am nm cm)) (some ⟨bb, 0, none⟩) N N am nm cm z1 zn zc ts ms sp' from ⟨T1.out.below B3.out, Q3.out, Q1.out.below B3.out⟩)
      have hsz : (w2.setCell ⟨w1.heap.size, 1, none⟩ (.slice am nm cm)).heap.size = w2.heap.size := by simp
      clear X3 B2 Q2 Q3 T1 Q1 R1 B1 B3
      go_wp2_with fail
      refine (checked_calls V3.out (fun i hi => tok_small HT.out HZ.out i (by rw [HN.out]; exact hi))).mono ?_
      rintro e w4 ⟨hE, b4⟩
      have R4 := hid (R3.out.below b4 R3.out.lt)
      have V4 := hid (V3.out.below b4)
      have B4 := hid (BW.out.trans (b4.mono BW.out.size))
      clear b4 R3 V3 BW X4 y0 y1 y2 f1 z0 z1' z2
      rcases hE with ⟨hmay, rfl⟩ | ⟨hmay, rfl⟩
      · have HF := hid (show Vc.TabIs rs ps sp ts ms sp' from ⟨HR.out, HT.out, HC.out, HS.out, hmay⟩)
        clear hmay
        have V5 := hid (V4.out.mut (mut_three w4 (w.heap.size + 1) (.slice (some ⟨bb, 0, none⟩) N N) (.slice am nm cm) (.slice z1 zn zc) (S := fun i => i = w.heap.size + 1) rfl) Hb.out (HMh.out.mono (by omega)) HH.out (fun i hi => by omega))
        obtain ⟨y1, y2, y3⟩ := ret_three R4.out (.slice (some ⟨bb, 0, none⟩) N N) (.slice am nm cm) (.slice z1 zn zc)
        have BB := hid (below_three B4.out (R := w.heap.size + 1) (by omega) (.slice (some ⟨bb, 0, none⟩) N N) (.slice am nm cm) (.slice z1 zn zc))
        have p0 := R4.out.cell0
        have p1 := R4.out.cell1
        have p2 := R4.out.cell2
        have q0 := R4.out.fr 0
        have q1 := R4.out.fr 1
        have q2 := R4.out.fr 2
        have u1 := y1.cell1
        have v1 := y1.fr 1
        have u2 := y2.cell2
        have v2 := y2.fr 2
        have r0 := y3.cell0
        have r1 := y3.cell1
        have r2 := y3.cell2
        unfold three at r0 r1 r2
        clear y1 y2 y3
        go_wp2_with fail
        refine bodyPost_ret (v := .tuple #[.agg #[.slice (some ⟨bb, 0, none⟩) N N, .slice am nm cm, .slice z1 zn zc], .int .i64 0]) (by simp [results, Try.results17, go_sem, r0, r1, r2]) rfl ?_
        exact ⟨.inl ⟨ts, ms, sp', _, _, _, am, nm, cm, z1, zn, zc, HF.out, rfl, V5.out⟩, BB.out⟩
      · have HF := hid (Vc.noTab_may (ps := ps) HT.out HC.out HS.out hmay)
        clear hmay
        obtain ⟨y1, y2, y3⟩ := ret_three R4.out (.slice none 0 0) (.slice none 0 0) (.slice none 0 0)
        have BB := hid (below_three B4.out (R := w.heap.size + 1) (by omega) (.slice none 0 0) (.slice none 0 0) (.slice none 0 0))
        have p0 := R4.out.cell0
        have p1 := R4.out.cell1
        have p2 := R4.out.cell2
        have q0 := R4.out.fr 0
        have q1 := R4.out.fr 1
        have q2 := R4.out.fr 2
        have u1 := y1.cell1
        have v1 := y1.fr 1
        have u2 := y2.cell2
        have v2 := y2.fr 2
        have r0 := y3.cell0
        have r1 := y3.cell1
        have r2 := y3.cell2
        unfold three at r0 r1 r2
        clear y1 y2 y3
        go_wp2_with fail
        refine bodyPost_ret (v := .tuple #[.agg #[.slice none 0 0, .slice none 0 0, .slice none 0 0], .int .i64 2]) (by simp [results, Try.results17, go_sem, r0, r1, r2]) rfl ?_
        exact ⟨.inr ⟨HF.out, rfl⟩, BB.out⟩
    · have HF := hid (Vc.noTab_pair HT.out hi hno)
      clear hi hno
      have B3 := hid (B2.out.setCell (p := ⟨w1.heap.size, 1, none⟩) (Nat.le_refl _) (.slice none 0 0))
      have R3 := hid (R1.out.below B3.out R1.out.lt)
      have BW := hid (B1.out.trans (B3.out.mono B1.out.size))
      clear X3 B2 B3 R1 B1 y0 y2
      obtain ⟨y1, y2, y3⟩ := ret_three R3.out (.slice none 0 0) (.slice none 0 0) (.slice none 0 0)
      have BB := hid (below_three BW.out (R := w.heap.size + 1) (by omega) (.slice none 0 0) (.slice none 0 0) (.slice none 0 0))
      have p0 := R3.out.cell0
      have p1 := R3.out.cell1
      have p2 := R3.out.cell2
      have q0 := R3.out.fr 0
      have q1 := R3.out.fr 1
      have q2 := R3.out.fr 2
      have u1 := y1.cell1
      have v1 := y1.fr 1
      have u2 := y2.cell2
      have v2 := y2.fr 2
      have r0 := y3.cell0
      have r1 := y3.cell1
      have r2 := y3.cell2
      unfold three at r0 r1 r2
      clear y1 y2 y3
      go_wp2_with fail
      refine bodyPost_ret (v := .tuple #[.agg #[.slice none 0 0, .slice none 0 0, .slice none 0 0], .int .i64 2]) (by simp [results, Try.results17, go_sem, r0, r1, r2]) rfl ?_
      exact ⟨.inr ⟨HF.out, rfl⟩, BB.out⟩
  · have HF := hid (show Vc.NoTab rs ps sp from by
      rcases hno with h | ⟨ts, h1, h2⟩
      · exact Vc.noTab_ranks h
      · exact Vc.noTab_tok h1 h2)
    clear hno
    have R2 := hid (R1.out.alloc (.cells #[.slice none 0 0, .slice none 0 0, .slice none 0 0] 26))
    have B2 := hid (B1.out.alloc B1.out.size (.cells #[.slice none 0 0, .slice none 0 0, .slice none 0 0] 26))
    obtain ⟨y1, y2, y3⟩ := ret_three R2.out (.slice none 0 0) (.slice none 0 0) (.slice none 0 0)
    have BB := hid (below_three B2.out (R := w.heap.size + 1) (by omega) (.slice none 0 0) (.slice none 0 0) (.slice none 0 0))
    have p0 := R2.out.cell0
    have p1 := R2.out.cell1
    have p2 := R2.out.cell2
    have q0 := R2.out.fr 0
    have q1 := R2.out.fr 1
    have q2 := R2.out.fr 2
    have u1 := y1.cell1
    have v1 := y1.fr 1
    have u2 := y2.cell2
    have v2 := y2.fr 2
    have r0 := y3.cell0
    have r1 := y3.cell1
    have r2 := y3.cell2
    unfold three at r0 r1 r2
    clear y1 y2 y3
    go_wp2_with fail
    refine bodyPost_ret (v := .tuple #[.agg #[.slice none 0 0, .slice none 0 0, .slice none 0 0], .int .i64 2]) (by simp [results, Try.results17, go_sem, r0, r1, r2]) rfl ?_
    exact ⟨.inr ⟨HF.out, rfl⟩, BB.out⟩
end Go.Proofs.Ytjpboackbjfenaa
