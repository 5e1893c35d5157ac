/-
  Walks of a coder's Encode and Dead.
-/
import Derived.Test.YtcjakjmhghoilaaEnE
import Derived.Test.YtcjakjmhghoilaaEnO
import Derived.Test.YtcjakjmhghoilaaLotG
namespace Go.Proofs.Ytcjakjmhghoilaa
open Go.RowKit Go.Maps
set_option linter.unusedVariables false
open Pr (it)
open Hp (Ent lt wo Dis)
def ETake (w0 : World) (O M : Nat) (v : Value) (l : List Ent) (X : Nat → Prop) (w : World) (e : Ending) (w' : World) : Prop :=
  (l = [] ∧ e = .returned (.tuple #[.agg #[.int .i64 0, .int .i64 0, .int .i64 0], .bool false]) ∧ SOut w0 O M v [] X w w') ∨
  (∃ x0 x1 x2, (x0, x1, x2) ∈ l ∧ (∀ y ∈ l, ¬ lt y (x0, x1, x2)) ∧ e = .returned (.tuple #[.agg #[.int .i64 x0, .int .i64 x1, .int .i64 x2], .bool true]) ∧ SOut w0 O M v (wo l x0) X w w')
section
variable {w0 w : World} {R K O M D N : Nat} {v : Value} {l : List Ent} {ms : List Mg4} {ids ls nx : Nat → Int}
theorem etake_calls (h : Rm w0 w R K O M D N v l ms ids ls nx) : Calls Try.prog 32 #[.pointer (some ⟨O, 0, none⟩)] w fun e w' => ETake w0 O M v l (fun k => k = R ∨ k = K) w e w' :=
  (stake h.q (by have := h.len; omega)).mono fun e w' h => h.imp (fun h => h) fun ⟨⟨x0, x1, x2⟩, h1, h2, h3, h4⟩ => ⟨x0, x1, x2, h1, h2, h3, h4⟩
end
/-- What a coder's row is on its way. -/
structure Mid (ms : List Mg4) (xs : Pr.Row) (N : Nat) (L : Pr.Ch) (l : List Ent) (ids ls nx : Nat → Int) : Prop where
  lk : Pr.Lk L N (-1) ids nx ls
  ag : Pr.Agd ms L l
  run : Pr.run ms (Pr.toks L) = xs
  z : (N = 0 ∧ L.length = 0) ∨ (0 < L.length ∧ Pr.pl L 0 = 0)
set_option maxRecDepth 100000 in
set_option maxHeartbeats 6400000 in
theorem eenc_calls {w : World} {B : Nat} {ba : Option Addr} {bn bc : Nat} {f : Nat → Int} {ts : Vc.Toks} {ms : List Mg4} (T : Cd w B ts ms) (S : Sl w ba bn bc f) (hn : bn ≤ 9000) :
    Calls Try.prog 14 #[.pointer (some ⟨B, 0, none⟩), .slice ba bn bc] w fun e w' => EnOut (Pr.enc ms (Vc.bt ts) (by_ (str f bn))) e w' ∧ Below w.heap.size w w' := by
  obtain ⟨x0, hx0⟩ : ∃ x, (by_ (str f bn)).map (Vc.bt ts) = x := ⟨_, rfl⟩
  have hl0 : x0.length = bn := by rw [← hx0, List.length_map, by_length, str_size]
  obtain ⟨xs, hxs⟩ : ∃ xs, Pr.enc ms (Vc.bt ts) (by_ (str f bn)) = xs := ⟨_, rfl⟩
  have hrun : Pr.run ms x0 = xs := by rw [← hxs, ← hx0]; rfl
  rw [hxs]
  have HC := hid (erow_calls T S hn hx0)
  have HM := hid (show Vc.MayT ts ∧ Vc.MayM ts ms from by obtain ⟨a, c, D, _, _, _, h4, h5⟩ := T; exact ⟨h4, h5⟩)
  have HL0 := hid hl0
  have HRun := hid hrun
  clear T S hx0 hxs hl0 hrun
  go_enter Try.func14, Try.ntmps14
  go_wp2_with fail
  refine HC.out.mono ?_
  rintro e w1 ⟨R, K, O, M, D, l, ids, ls, nx, rfl, o1, hL, hA⟩
  have O1 := hid o1
  have M1 := hid (show Mid ms xs bn (Pr.ch0 x0) l ids ls nx from ⟨hL, hA, by rw [Pr.ch0_toks]; exact HRun.out, by
    have h1 := Pr.ch0_len x0
    rw [HL0.out] at h1
    rcases Nat.eq_zero_or_pos bn with e | e
    · exact .inl ⟨e, by omega⟩
    · exact .inr ⟨by omega, Pr.ch0_pl x0 (by rw [HL0.out]; exact e)⟩⟩)
  have HLn := hid (show (Pr.ch0 x0).length = bn from by rw [Pr.ch0_len, HL0.out])
  clear o1 hL hA HC
  go_wp2_with fail
  go_loopg [] bn (fun r wr => ∃ (L : Pr.Ch) (l : List Ent) (ids ls nx : Nat → Int), r = L.length ∧ Hid (RmOut w wr R K O M D bn l ms ids ls nx) ∧ Hid (Mid ms xs bn L l ids ls nx))
  case atStart => exact ⟨_, _, _, _, _, HLn.out.symm, O1, M1⟩
  case round =>
    clear O1 M1 HLn HRun HL0
    obtain ⟨L, l, ids, ls, nx, rfl, O2, M2⟩ := hrel
    obtain ⟨v2, h2⟩ := O2.out
    have H2 := hid h2
    have c2 := h2.blk.cell2
    clear h2 O2
    go_wp2_with fail
    refine (etake_calls H2.out).mono ?_
    rintro e w3 (⟨hl, rfl, o3⟩ | ⟨y0, y1, y2, hm, hlt, rfl, o3⟩)
    · subst hl
      obtain ⟨v3, h3⟩ := H2.out.step o3 (fun x hx => .inl hx)
      have H3 := hid (h3.alloc (.cells #[.int .i64 0, .int .i64 0, .int .i64 0] 63))
      have HE := hid (show Pr.toks L = xs from by rw [← M2.out.run]; exact (Pr.agd_end M2.out.ag).symm)
      clear o3 h3 c2
      go_wp2_with fail
      refine (eend_calls H3.out M2.out.lk M2.out.z).mono ?_
      rintro e w5 ⟨⟨a5, n5, c5, rfl, i5⟩, b5⟩
      rw [HE.out] at i5
      have I5 := hid i5
      have B5 := hid (H3.out.q.below.trans (b5.mono H3.out.q.below.size))
      clear i5 b5
      go_wp2_with fail
      go_ret
      exact ⟨⟨_, _, _, rfl, I5.out⟩, B5.out⟩
    · obtain ⟨i, hi, hf, hs⟩ := Pr.agd_take M2.out.lk.asc M2.out.ag hm hlt
      have hp := Pr.fit_place hf
      simp only at hp hs
      subst hp
      have ho : (Lit.int .i64 y2).wf = true := by
        obtain ⟨_, k, hk, e⟩ := Pr.fit_some hf
        have e2 : y2 = (mat ms k).2.2.1 := congrArg (fun z => z.2.2) e
        rw [e2]
        exact is_wf HM.out.1 (HM.out.2.ok k (Pr.fnd_some hk).1).2.2.1
      obtain ⟨v3, h3⟩ := H2.out.step o3 (fun x hx => .inl (Hp.wo_mem.1 hx).1)
      have H3 := hid (h3.alloc (.cells #[.int .i64 (Pr.pl L i : Int), .int .i64 y1, .int .i64 y2] 63))
      have M3 := hid (fun ids' ls' nx' (g : Pr.Lk (Pr.mg L i y2) bn (-1) ids' nx' ls') => show Mid ms xs bn (Pr.mg L i y2) (Pr.jl ms L i y2 (wo l (Pr.pl L i : Int))) ids' ls' nx' from ⟨g, Pr.agd_join M2.out.lk.asc M2.out.ag hi y2, by
        rw [← M2.out.run]
        exact (Pr.run_step hs).symm, by
        have hlen := Pr.mg_len hi y2
        rcases M2.out.z with ⟨_, e⟩ | ⟨e1, e2⟩
        · omega
        · exact .inr ⟨by omega, by rw [Pr.pl_mg y2 hi, if_pos (Nat.zero_le _)]; exact e2⟩⟩)
      have HLen := hid (Pr.mg_len hi y2)
      have HO := hid ho
      have X3 := Bx3.new w3 63 (.int .i64 (Pr.pl L i : Int)) (.int .i64 y1) (.int .i64 y2)
      have d0 := X3.cell0
      have d2 := X3.cell2
      clear o3 h3 c2 hm hlt hf hs ho X3
      go_wp2_with fail
      refine (ejoin_calls H3.out M2.out.lk hi y2 HO.out).mono ?_
      rintro e w5 ⟨rfl, ids', ls', nx', o5, g5⟩
      have O5 := hid o5
      have M5 := hid (M3.out ids' ls' nx' g5)
      clear o5 g5
      go_wp2_with fail
      go_roundg (Pr.mg L i y2).length
      case measure => have := HLen.out; omega
      case rel => exact ⟨_, _, _, _, _, rfl, O5, M5⟩
theorem dead_iff {ts : Vc.Toks} {ms : List Mg4} (hT : Vc.MayT ts) (hM : Vc.MayM ts ms) {j : Nat} (hj : j < ts.length) : Pr.deadB ts ms j = true ↔ 1 < (Pr.enc ms (Vc.bt ts) (by_ (at_ ts j))).length := by
  obtain ⟨h1, h2⟩ := Pr.enc_cat hM (Vc.bytN_of hT) (by_ (at_ ts j))
  rw [Pr.deadB_iff]
  obtain ⟨xs, hxs⟩ : ∃ xs, Pr.enc ms (Vc.bt ts) (by_ (at_ ts j)) = xs := ⟨_, rfl⟩
  rw [hxs] at h1 h2 ⊢
  match xs, h1, h2 with
  | [], _, h2 =>
    have hz : (at_ ts j).size = 0 := by rw [← by_length, ← h2]; rfl
    exact ⟨fun h => absurd hz h.1, fun h => by simp at h⟩
  | [x], h1, h2 =>
    have hx := h1 x (List.mem_singleton.2 rfl)
    rw [Pr.cat_cons, Pr.cat_nil, List.append_nil] at h2
    have e := by_inj h2
    have hxj : x = (j : Int) := by
      have h3 := hT.apart x.toNat j (by have := hx.1; have := hx.2.1; omega) hj hx.2.2 e
      have := hx.1
      omega
    exact ⟨fun h => absurd (by rw [hxj]) h.2, fun h => by simp at h⟩
  | x :: y :: zs, h1, h2 =>
    refine ⟨fun _ => by simp, fun _ => ⟨fun hz => ?_, fun e => by simp at e⟩⟩
    have hx := h1 x (List.mem_cons_self ..)
    have h3 : (Pr.cat ts (x :: y :: zs)).length = 0 := by rw [h2, by_length, hz]
    rw [Pr.cat_cons, List.length_append, by_length] at h3
    exact hx.2.2 (by show (Vc.tok ts x).size = 0; omega)
set_option maxRecDepth 100000 in
set_option maxHeartbeats 6400000 in
theorem edead_calls {w : World} {B : Nat} {ts : Vc.Toks} {ms : List Mg4} (T : Cd w B ts ms) :
    Calls Try.prog 21 #[.pointer (some ⟨B, 0, none⟩)] w fun e w' => EnOut (Pr.dead ts ms ts.length) e w' ∧ Below w.heap.size w w' := by
  obtain ⟨i0, hi, hz0, hz1, hz2⟩ := info_parts Try.infoInt
  have HT := hid T
  obtain ⟨a, c, D, hC, hTs, hD, hMT, hMM⟩ := T
  have hl4 := hMT.len
  have HTs := hid hTs
  have HMT := hid hMT
  have HMM := hid hMM
  have c0 := hC.c0
  have O0 := hid (show w.ownsRow w.heap.size 3 1 (.slice none 0 0) (Pr.dead ts ms 0).length (iv (Pr.dead ts ms 0)) from World.ownsRow_nil _ _ _ _)
  obtain ⟨n, hnl⟩ : ∃ n, ts.length = n := ⟨_, rfl⟩
  have HNl := hid hnl
  rw [hnl] at c0 hl4 HTs ⊢
  clear hC hTs hD hMT hMM hnl
  go_enter Try.func21, Try.ntmps21
  go_wp2_with fail
  go_loopg [3, 13] n (fun r rv kv wr => ∃ (j : Nat) (u : Value), r = n - j ∧ u = rv ∧ kv = .int .i64 (j : Int) ∧ j ≤ n ∧ Hid (wr.ownsRow w.heap.size 3 1 u (Pr.dead ts ms j).length (iv (Pr.dead ts ms j))) ∧ Hid (Below w.heap.size w wr))
  case atStart => exact ⟨0, _, rfl, rfl, rfl, by omega, O0, hid (Below.refl _ _)⟩
  case round =>
    clear O0 c0
    obtain ⟨j, u, rfl, rfl, rfl, hj, HO, HB⟩ := hrel
    by_cases hlt : j < n
    · have l0 : (0 : Int) ≤ j := by omega
      have l1 : (j : Int) < n := by omega
      have l2 : IntKind.i64.wrap ((j : Int) + 1) = j + 1 := i64_in (by omega) (by omega)
      have sz := HB.out.size
      have hdl := Pr.dead_len ts ms j
      obtain ⟨b, off, hba, hbl, hc⟩ := (HTs.out.below HB.out).at' (by omega)
      subst hba
      have p0 := hc j hlt
      have hsz := HMT.out.sz j (by rw [HNl.out]; exact hlt)
      have HDB := hid (dead_iff HMT.out HMM.out (j := j) (by rw [HNl.out]; exact hlt))
      have HDJ := hid (show Pr.dead ts ms (j + 1) = Pr.dead ts ms j ++ (if Pr.deadB ts ms j = true then [(j : Int)] else []) from rfl)
      obtain ⟨s, hs⟩ : ∃ s, at_ ts j = s := ⟨_, rfl⟩
      rw [hs] at p0 hsz HDB
      obtain ⟨c5, w5, hcv, hS5, hb5, hs5⟩ := conv_bytes (P := Try.prog) wr 9 27 5 Try.underlying9 Try.underlying27 Try.underlying5 (St.any s) (by unfold maxLen; omega)
      have hstr : str (bytesF s) s.size = s := (St.any s).eq_str.symm
      have S5 := hid hS5
      have B5 := hid hb5
      have HCE := hid (eenc_calls ((HT.out.below HB.out).below hb5) hS5 (by omega))
      rw [hstr] at HCE
      obtain ⟨xs, hxs⟩ : ∃ xs, Pr.enc ms (Vc.bt ts) (by_ s) = xs := ⟨_, rfl⟩
      have hel := Pr.enc_len (ms := ms) (f := Vc.bt ts) (by_ s)
      rw [by_length] at hel
      rw [hxs] at HCE HDB hel
      clear hc hs hS5 hb5 hs5 hstr hxs
      go_wp2_with fail
      refine HCE.out.mono ?_
      rintro e w6 ⟨⟨a6, n6, c6, rfl, i6⟩, b6⟩
      have hn6 := i6.len
      have B6 := hid (B5.out.trans (b6.mono B5.out.size))
      have O6 := hid (own_below HO.out B6.out)
      have BB := hid (HB.out.trans (B6.out.mono sz))
      have sz6 := BB.out.size
      rw [hn6] at HDB hel
      clear hcv i6 b6 S5 B5 HCE hn6
      by_cases h1 : 1 < n6
      · have e3 : (1 : Int) < n6 := by omega
        have HD := hid (show Pr.dead ts ms (j + 1) = Pr.dead ts ms j ++ [(j : Int)] from by rw [HDJ.out, if_pos (HDB.out.2 h1)])
        go_wp2_with (at_builtin; refine wpList_append_src rfl _ _ 36 rfl w.heap.size 3 i0 _ 1 8 Try.underlying36 hi hz0 hz1 hz2 rfl (by decide) u (Pr.dead ts ms j).length (iv (Pr.dead ts ms j)) rfl (O6.out.alloc _) (some ⟨w6.heap.size, 0, none⟩) 1 1 [.int .i64 (j : Int)] rfl (Src.new #[.int .i64 (j : Int)] 3 w6.heap.size rfl rfl (fun u hu => by simp at hu; subst hu; rfl)) (by unfold maxLen; omega) (by omega) (by simp; omega) ?_; intro v4 w4 ho4 hg4 hb4; have O4 := hid ho4; have G4 := hid hg4; clear ho4 hg4 hb4)
        have O5 := hid (show w4.ownsRow w.heap.size 3 1 v4 (Pr.dead ts ms (j + 1)).length (iv (Pr.dead ts ms (j + 1))) from by rw [HD.out, List.length_append, ← iv_append]; exact O4.out)
        have B7 := hid ((BB.out.alloc sz6 (.cells #[.int .i64 (j : Int)] 3)).grown G4.out (by simp; omega) (fun k e => by have := (O6.out.lt k e).1; omega))
        clear O4 G4
        go_roundg (n - (j + 1))
        case measure => omega
        case rel => exact ⟨j + 1, v4, rfl, rfl, by go_num, by omega, O5, B7⟩
      · have e3 : ¬ (1 : Int) < n6 := by omega
        have HD := hid (show Pr.dead ts ms (j + 1) = Pr.dead ts ms j from by rw [HDJ.out, if_neg (fun h => h1 (HDB.out.1 h)), List.append_nil])
        go_wp2_with fail
        go_roundg (n - (j + 1))
        case measure => omega
        case rel => exact ⟨j + 1, u, rfl, rfl, by go_num, by omega, hid (by rw [HD.out]; exact O6.out), BB⟩
    · have l1 : ¬ (j : Int) < n := by omega
      have HI := hid (show wr.ownsRow w.heap.size 3 1 u (Pr.dead ts ms n).length (iv (Pr.dead ts ms n)) from by
        have h := HO.out
        rw [show j = n by omega] at h
        exact h)
      clear HO
      obtain ⟨ao, co, rfl, hI⟩ := Ir.ofOwn HI.out
      have I2 := hid hI
      clear hI HI
      go_wp2_with fail
      go_ret
      exact ⟨⟨_, _, _, rfl, I2.out⟩, HB.out⟩
end Go.Proofs.Ytcjakjmhghoilaa
