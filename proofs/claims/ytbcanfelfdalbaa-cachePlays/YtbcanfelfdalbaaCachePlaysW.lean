/-
  Walk of the law CachePlays.
-/
import Derived.Test.YtbcanfelfdalbaaCacheLastW
import Derived.Test.YtbcanfelfdalbaaCaR
import Derived.Test.YtbcanfelfdalbaaOpenCa
import Derived.Test.YtbcanfelfdalbaaLotT
namespace Go.Proofs.Ytbcanfelfdalbaa
open Go.RowKit
set_option linter.unusedVariables false
open Pr (it)
/-- Are these small enough to be gone through? -/
def CSmall (n : Nat) (ks : Nat → ByteArray) (vs : Nat → Sv) : Prop := n ≤ 150 ∧ ∀ i, i < n → (vs i).2.1 ≤ 50 ∧ (ks i).size ≤ 50
set_option maxRecDepth 100000 in
set_option maxHeartbeats 6400000 in
theorem cgreat_calls {w : World} {a : Option Addr} {n c : Nat} {ps : Nat → Bool} {ks : Nat → ByteArray} {vs : Nat → Sv} {rs : Nat → Pr.Row} (O : Cops w a n c ps ks vs rs) :
    Calls Try.prog 9 #[.slice a n c] w fun e w' => Says e (¬ CSmall n ks vs) ∧ Below w.heap.size w w' := by
  have HO := hid O
  clear O
  by_cases hn : n ≤ 150
  rotate_left
  · have l1 : (150 : Int) < n := by omega
    have HN := hid (show ¬ CSmall n ks vs from fun h => hn h.1)
    go_enter Try.func9, Try.ntmps9
    go_wp2_with fail
    go_ret
    exact ⟨Says.yes HN.out, Below.refl _ _⟩
  have l1 : ¬ (150 : Int) < n := by omega
  go_enter Try.func9, Try.ntmps9
  go_wp2_with fail
  go_loopg [10] n (fun r kv wr => ∃ j : Nat, r = n - j ∧ kv = .int .i64 (j : Int) ∧ j ≤ n ∧ Hid (∀ i, i < j → (vs i).2.1 ≤ 50 ∧ (ks i).size ≤ 50) ∧ Hid (Below w.heap.size w wr))
  case atStart => exact ⟨0, rfl, rfl, by omega, hid (fun i hi => by omega), hid (Below.refl _ _)⟩
  case round =>
    obtain ⟨j, rfl, rfl, hj, HA, HB⟩ := hrel
    by_cases hlt : j < n
    · have l0 : (0 : Int) ≤ j := by omega
      have l2 : (j : Int) < n := by omega
      have l3 : IntKind.i64.wrap ((j : Int) + 1) = j + 1 := i64_in (by omega) (by omega)
      obtain ⟨b, off, rfl, hbl, p0, p1, p2⟩ := (HO.out.below HB.out).at' j hlt
      have HJ := hid (fun (hv : (vs j).2.1 ≤ 50) (hk : (ks j).size ≤ 50) => show ∀ i, i < j + 1 → (vs i).2.1 ≤ 50 ∧ (ks i).size ≤ 50 from fun i hi => by
        by_cases g : i < j
        · exact HA.out i g
        · obtain rfl : i = j := by omega
          exact ⟨hv, hk⟩)
      have HV := hid (fun (hv : ¬ (vs j).2.1 ≤ 50) (h : CSmall n ks vs) => hv (h.2 j hlt).1)
      have HK := hid (fun (hv : ¬ (ks j).size ≤ 50) (h : CSmall n ks vs) => hv (h.2 j hlt).2)
      obtain ⟨p, hp⟩ : ∃ p, ps j = p := ⟨_, rfl⟩
      obtain ⟨s, hs⟩ : ∃ p, ks j = p := ⟨_, rfl⟩
      obtain ⟨⟨va, vn, vc⟩, hv⟩ : ∃ p, vs j = p := ⟨_, rfl⟩
      rw [hp] at p0
      rw [hs] at p1 HJ HK
      rw [hv] at p2 HJ HV
      unfold sv at p2
      simp only at p2 HJ HV
      have X1 := Bx3.new wr 31 (.bool p) (.string s) (.slice va vn vc)
      have B1 := hid (HB.out.alloc HB.out.size (.cells #[.bool p, .string s, .slice va vn vc] 31))
      have c1 := X1.cell1
      have c2 := X1.cell2
      clear hp hs hv X1
      by_cases h1 : vn ≤ 50
      · have m1 : ¬ (50 : Int) < vn := by omega
        by_cases h2 : s.size ≤ 50
        · have m2 : ¬ (50 : Int) < s.size := by omega
          go_wp2_with fail
          go_roundg (n - (j + 1))
          case measure => omega
          case rel => exact ⟨j + 1, rfl, by go_num, by omega, hid (HJ.out h1 h2), B1⟩
        · have m2 : (50 : Int) < s.size := by omega
          go_wp2_with fail
          go_ret
          exact ⟨Says.yes (HK.out h2), B1.out⟩
      · have m1 : (50 : Int) < vn := by omega
        go_wp2_with fail
        go_ret
        exact ⟨Says.yes (HV.out h1), B1.out⟩
    · have l2 : ¬ (j : Int) < n := by omega
      have HN := hid (show ¬ ¬ CSmall n ks vs from fun h => h ⟨hn, fun i hi => HA.out i (by omega)⟩)
      go_wp2_with fail
      go_ret
      exact ⟨Says.no HN.out, HB.out⟩
/-- The block of a slice. -/
def bk (a : Option Addr) : Nat → Prop := fun k => ∃ p, a = some p ∧ p.block = k
theorem Xn.at' {M : Nat} {w w' : World} {a : Option Addr} {n c : Nat} {es : List Et} (h : Xn M w a n c es) (hk : ∀ k, bk a k → w'.heap[k]? = w.heap[k]?) : Xn M w' a n c es := by
  obtain ⟨h1, h2⟩ := h
  have hlt : ∀ p, a = some p → p.block < w'.heap.size := fun p hp => by
    have e := hk p.block ⟨p, hp, rfl⟩
    rw [Array.getElem?_eq_getElem (h2 p hp).2] at e
    exact (Array.getElem?_eq_some_iff.1 e).1
  refine ⟨⟨h1.len, h1.le, h1.mx, h1.nil, fun hn => ?_⟩, fun p hp => ⟨(h2 p hp).1, hlt p hp⟩⟩
  obtain ⟨b, off, rfl, _, hc⟩ := h1.at' hn
  have hb := hk b ⟨_, rfl, rfl⟩
  refine ⟨b, off, rfl, hlt _ rfl, fun i hi => ?_⟩
  exact ⟨(show w'.cell? ⟨b, off + i * 2, none⟩ = w.cell? ⟨b, off + i * 2, none⟩ from World.cell?_of_block hb).trans (hc i hi).1, (show w'.cell? ⟨b, off + i * 2 + 1, none⟩ = w.cell? ⟨b, off + i * 2 + 1, none⟩ from World.cell?_of_block hb).trans (hc i hi).2⟩
theorem Xn.below {M : Nat} {w w' : World} {a : Option Addr} {n c : Nat} {es : List Et} (h : Xn M w a n c es) (hb : Below w.heap.size w w') : Xn M w' a n c es :=
  h.at' (fun k ⟨p, hp, hk⟩ => hb.block k (by rw [← hk]; exact (h.2 p hp).2))
theorem Xn.lower {M M' : Nat} {w : World} {a : Option Addr} {n c : Nat} {es : List Et} (h : Xn M w a n c es) (hM : M' ≤ M) : Xn M' w a n c es := ⟨h.1, fun p hp => ⟨Nat.le_trans hM (h.2 p hp).1, (h.2 p hp).2⟩⟩
/-- A cache beside the reference's row. -/
structure Two15 (w0 w : World) (B : Nat) (S : Nat → Prop) (room : Nat) (a : Option Addr) (n c : Nat) (es : List Et) (h m : Nat) : Prop where
  q : Cq w0 w B S room (abs_ es) h m (bk a)
  x : Xn w0.heap.size w a n c es
  led : Leads w0 es
theorem Two15.grow {w0 w w' : World} {B : Nat} {S : Nat → Prop} {room : Nat} {a : Option Addr} {n c : Nat} {es : List Et} {h m : Nat} (H : Two15 w0 w B S room a n c es h m) (hb : Below w.heap.size w w') : Two15 w0 w' B S room a n c es h m :=
  ⟨H.q.grow hb (fun k hk => .inl hk), H.x.below hb, H.led⟩
theorem found_row {es : List Et} (hd : Ca.Dis (abs_ es)) {k : ByteArray} {xs : Pr.Row} (hm : (k, xs) ∈ abs_ es) {i : Nat} (hi : i < es.length) (hk : xk es i = k) : xr es i = xs := by
  have h1 := abs_mem hi
  have := Ca.dis_one hd h1 hm (by show xk es i = k; exact hk)
  exact (Prod.mk.inj this).2
theorem xyoung_len (es : List Et) (e : Et) : (xyoung es e).length ≤ es.length + 1 := by
  have := xwo_len es e.1
  unfold xyoung
  rw [List.length_append, List.length_singleton]
  omega
theorem xput_len (es : List Et) (room : Nat) (e : Et) : (xput es room e).length ≤ es.length + 1 := by
  have := xyoung_len es e
  unfold xput
  split
  · rw [List.length_drop]; omega
  · exact this
theorem keys_at (es : List Et) {i : Nat} (h : i < es.length) : at_ ((abs_ es).map fun x => x.1) i = xk es i := by
  unfold at_ abs_ xk
  rw [List.getD_eq_getElem?_getD, List.getElem?_map, List.getElem?_map, List.getD_eq_getElem?_getD, List.getElem?_eq_getElem h]
  rfl
set_option maxRecDepth 100000 in
set_option maxHeartbeats 12800000 in
theorem cachePlays_calls {w : World} {a : Option Addr} {n c : Nat} {ps : Nat → Bool} {ks : Nat → ByteArray} {vs : Nat → Sv} {rs : Nat → Pr.Row} (x : Int) (O : Cops w a n c ps ks vs rs) :
    Calls Try.prog 3 #[.int .i64 x, .slice a n c] w fun e w' => e = .returned (.bool true) ∧ Below w.heap.size w w' := by
  have HO := hid O
  clear O
  by_cases hx : x < 0 ∨ 1048576 < x
  · go_enter Try.func3, Try.ntmps3
    go_wp2_with fail
    refine (cnew_no w x hx).mono ?_
    rintro e w1 ⟨rfl, b1⟩
    have B1 := hid b1
    clear b1
    by_cases h0 : x < 0
    · go_wp2_with fail
      refine (cafixed_calls w1).mono ?_
      rintro e w2 ⟨rfl, b2⟩
      have B2 := hid (B1.out.trans (b2.mono B1.out.size))
      go_wp2_with fail
      go_ret
      exact ⟨rfl, B2.out⟩
    · have h1 : 1048576 < x := by omega
      go_wp2_with fail
      refine (cafixed_calls w1).mono ?_
      rintro e w2 ⟨rfl, b2⟩
      have B2 := hid (B1.out.trans (b2.mono B1.out.size))
      go_wp2_with fail
      go_ret
      exact ⟨rfl, B2.out⟩
  obtain ⟨room, rfl⟩ : ∃ r : Nat, x = (r : Int) := ⟨x.toNat, by omega⟩
  have hr : room ≤ 1048576 := by omega
  have l1 : ¬ (room : Int) < 0 := by omega
  have l2 : ¬ (1048576 : Int) < room := by omega
  clear hx
  go_enter Try.func3, Try.ntmps3
  go_wp2_with fail
  refine (cnew_yes w w (Below.refl _ _) room hr).mono ?_
  rintro e w1 ⟨⟨B, S, rfl, q1⟩, _⟩
  have Q1 := hid q1
  clear q1
  go_wp2_with fail
  refine (cgreat_calls (HO.out.below Q1.out.below)).mono ?_
  rintro e w2 ⟨hs, b2⟩
  have Q2 := hid (Q1.out.grow b2 (X' := fun _ => False) (fun k hk => hk.elim))
  clear b2 Q1
  rcases hs.of with ⟨rfl, hg⟩ | ⟨rfl, hg⟩
  · go_wp2_with fail
    refine (cafixed_calls w2).mono ?_
    rintro e w3 ⟨rfl, b3⟩
    have Q3 := hid (Q2.out.grow b3 (X' := fun _ => False) (fun k hk => hk.elim))
    clear b3 Q2 hg hs
    go_wp2_with fail
    refine (croom_calls Q3.out).mono ?_
    rintro e w4 ⟨rfl, b4⟩
    have B4 := hid (Q3.out.below.trans (b4.mono Q3.out.below.size))
    clear b4
    go_wp2_with fail
    go_ret
    exact ⟨rfl, B4.out⟩
  have HSm := hid (Classical.not_not.1 hg)
  have hn : n ≤ 150 := HSm.out.1
  clear hs hg
  go_wp2_with fail
  refine (croom_calls Q2.out).mono ?_
  rintro e w3 ⟨rfl, b3⟩
  have c4 := (Below.refl w3.heap.size w3).alloc (Nat.le_refl _) (.cells #[] 35)
  have T4 := hid (show ∃ S es, Two15 w (w3.alloc (.cells #[] 35)) B S room (some ⟨w3.heap.size, 0, none⟩) 0 0 es 0 0 ∧ es.length ≤ 0 from ⟨S, [], ⟨Q2.out.grow (b3.trans (c4.mono b3.size)) (fun k hk => by
    obtain ⟨p, hp, rfl⟩ := hk
    cases hp
    exact .inr ⟨b3.size, by simp⟩), ⟨⟨rfl, Nat.le_refl _, Nat.zero_le _, fun e => ⟨rfl, rfl⟩, fun h => by omega⟩, fun p hp => by
      cases hp
      exact ⟨Nat.le_trans Q2.out.below.size b3.size, by simp⟩⟩, fun x hx => by cases hx⟩, Nat.le_refl _⟩)
  clear b3 c4 Q2
  go_wp2_with fail
  go_loopg [6, 7, 8, 56] n (fun r lv hv mv kv wr => ∃ (j : Nat) (al : Option Addr) (nl cl h m : Nat), r = n - j ∧ lv = .slice al nl cl ∧ hv = .int .i64 (h : Int) ∧ mv = .int .i64 (m : Int) ∧ kv = .int .i64 (j : Int) ∧ j ≤ n ∧ h + m ≤ j ∧ Hid (∃ S es, Two15 w wr B S room al nl cl es h m ∧ es.length ≤ j))
  case atStart => exact ⟨0, _, _, _, 0, 0, rfl, rfl, rfl, rfl, rfl, by omega, by omega, T4⟩
  case round =>
    clear T4
    obtain ⟨j, al, nl, cl, h, m, rfl, rfl, rfl, rfl, rfl, hj, hhm, HT⟩ := hrel
    obtain ⟨S2, es, t2, hel⟩ := HT.out
    have T2 := hid t2
    have hnl : es.length = nl := t2.x.1.len
    clear t2 HT
    by_cases hlt : j < n
    · have k0 : (0 : Int) ≤ j := by omega
      have k1 : (j : Int) < n := by omega
      have k2 : IntKind.i64.wrap ((j : Int) + 1) = j + 1 := i64_in (by omega) (by omega)
      have k3 : IntKind.i64.wrap ((h : Int) + 1) = h + 1 := i64_in (by omega) (by omega)
      have k4 : IntKind.i64.wrap ((m : Int) + 1) = m + 1 := i64_in (by omega) (by omega)
      obtain ⟨b, off, rfl, hbl, p0, p1, p2⟩ := (HO.out.below T2.out.q.below).at' j hlt
      have IR := hid (HO.out.rows j hlt)
      obtain ⟨p, hp⟩ : ∃ p, ps j = p := ⟨_, rfl⟩
      obtain ⟨k, hk⟩ : ∃ p, ks j = p := ⟨_, rfl⟩
      obtain ⟨⟨va, vn, vc⟩, hv⟩ : ∃ p, vs j = p := ⟨_, rfl⟩
      obtain ⟨rw', hrw⟩ : ∃ p, rs j = p := ⟨_, rfl⟩
      have hvn : vn ≤ 50 := by have := (HSm.out.2 j hlt).1; rw [hv] at this; exact this
      have hks : k.size ≤ 50 := by have := (HSm.out.2 j hlt).2; rw [hk] at this; exact this
      rw [hp] at p0
      rw [hk] at p1
      rw [hv] at p2 IR
      rw [hrw] at IR
      unfold sv at p2
      simp only at p2 IR
      have ca := (Below.refl wr.heap.size wr).alloc (Nat.le_refl _) (.cells #[.bool p, .string k, .slice va vn vc] 31)
      have X3 := hid (Bx3.new wr 31 (.bool p) (.string k) (.slice va vn vc))
      have Q3 := hid (T2.out.q.grow ca (X' := fun b => bk al b ∨ b = wr.heap.size) (fun b hb => hb.imp id (fun e => ⟨by omega, by simp; omega⟩)))
      have XL3 := hid (T2.out.x.below ca)
      have LD := hid T2.out.led
      have habs : (abs_ es).length = nl := (abs_len es).trans hnl
      have hwr := T2.out.q.below.size
      clear ca hp hk hv hrw T2
      have d0 := X3.out.cell0
      have d1 := X3.out.cell1
      have d2 := X3.out.cell2
      cases p
      · -- Get
        go_wp2_with fail
        obtain ⟨K, hK⟩ : ∃ K, wr.heap.size = K := ⟨_, rfl⟩
        obtain ⟨w3', hw3⟩ : ∃ W, wr.alloc (.cells #[.bool false, .string k, .slice va vn vc] 31) = W := ⟨_, rfl⟩
        rw [hw3, hK] at X3 Q3
        rw [hw3] at XL3
        rw [hw3, hK]
        clear hw3 d0 d1 d2 p0 p1 p2
        refine (cget_calls Q3.out k (by omega) (by omega)).mono ?_
        rintro e w5 (⟨xs, a5, n5, c5, hm, rfl, o5, S5, q5, kp5⟩ | ⟨hno, rfl, S5, q5, kp5⟩)
        · have X5 := hid (show Bx3 w5 K 31 (.bool false) (.string k) (.slice va vn vc) from (kp5 K (.inr rfl)).trans X3.out)
          have XL5 := hid (XL3.out.at' (fun b hb => kp5 b (.inl hb)))
          have Q5 := hid q5
          have I5 := hid (Ir.ofOwn' o5)
          have HM := hid hm
          have hd := Q3.out.dis
          have HD := hid hd
          have d1 := X5.out.cell1
          clear hm o5 q5 kp5 hd X3 XL3 Q3
          go_wp2_with fail
          refine (cfind_calls XL5.out.1 k (by omega)).mono ?_
          rintro e w6 ⟨hf, rfl⟩
          rcases hf with ⟨i, hi, hki, rfl⟩ | ⟨hno, _⟩
          rotate_left
          · obtain ⟨i, hi, h1, _⟩ := abs_inv HM.out
            exact absurd h1 (hno i hi)
          have hxr := found_row HD.out HM.out hi hki
          have i0 : (0 : Int) ≤ i := by omega
          have i1 : (i : Int) < nl := by omega
          have i2 : decide ((0 : Int) ≤ (i : Int)) = true := decide_eq_true i0
          obtain ⟨b7, off7, rfl, hb7, hc7⟩ := XL5.out.1.at' (by omega)
          obtain ⟨r0, r1⟩ := hc7 i (by omega)
          have LI := hid (LD.out.at' hi)
          rw [hki] at r0
          obtain ⟨⟨ea, en, ec⟩, hes⟩ : ∃ s, xs_ es i = s := ⟨_, rfl⟩
          rw [hes] at r1 LI
          unfold sv at r1
          simp only at r1 LI
          rw [hxr] at LI
          have c8 := (Below.refl w6.heap.size w6).alloc (Nat.le_refl _) (.cells #[.string k, .slice ea en ec] 35)
          have Y8 := hid (Bx2.new w6 35 (.string k) (.slice ea en ec))
          have I8 := hid (I5.out.below c8)
          have XL8 := hid (XL5.out.below c8)
          have J8 := hid ((LI.out.below Q5.out.below).below c8)
          have B8 := hid c8
          have f1 := Y8.out.cell1
          have HKi := hid hki
          clear c8 hc7 hes hki d1 X5 I5 XL5
          go_wp2_with fail
          refine (same_calls I8.out J8.out).mono ?_
          rintro e w9 ⟨hsm, b9⟩
          obtain rfl := saysB hsm rfl
          have Y9 := hid (Y8.out.below b9 Y8.out.lt)
          have XL9 := hid (XL8.out.below b9)
          have B9 := hid (B8.out.trans (b9.mono B8.out.size))
          have g0 := Y9.out.cell0
          have g1 := Y9.out.cell1
          clear b9 hsm f1 r0 r1 Y8 XL8 I8 J8 B8
          go_wp2_with fail
          refine (cyoung_calls (ra := ea) (rn := en) (rc := ec) XL9.out.1 k xs (by omega)).mono ?_
          rintro e w10 ⟨⟨v10, rfl, o10⟩, b10⟩
          obtain ⟨a10, c10, rfl, x10⟩ := xn_own o10
          have hyl := xyoung_len es (k, (ea, en, ec), xs)
          have BB := hid (B9.out.trans (b10.mono B9.out.size))
          have b9s := B9.out.size
          have q5s := Q5.out.below.size
          have TF := hid (show ∃ S es', Two15 w w10 B S room a10 (xyoung es (k, (ea, en, ec), xs)).length c10 es' (h + 1) m ∧ es'.length ≤ j + 1 from ⟨S5, xyoung es (k, (ea, en, ec), xs), ⟨by
            rw [abs_young]
            exact Q5.out.grow BB.out (fun b hb => by
              obtain ⟨q, hq, rfl⟩ := hb
              have := x10.2 q hq
              exact .inr ⟨by omega, this.2⟩), x10.lower (by omega), xyoung_leads LD.out LI.out⟩, by omega⟩)
          clear o10 b10 x10 BB g0 g1 Y9 XL9 B9 hyl
          go_wp2_with fail
          go_roundg (n - (j + 1))
          case measure => omega
          case rel => exact ⟨j + 1, _, _, _, h + 1, m, rfl, rfl, by go_num, rfl, by go_num, by omega, by omega, TF⟩
        · have X5 := hid (show Bx3 w5 K 31 (.bool false) (.string k) (.slice va vn vc) from (kp5 K (.inr rfl)).trans X3.out)
          have XL5 := hid (XL3.out.at' (fun b hb => kp5 b (.inl hb)))
          have Q5 := hid q5
          have HNo := hid hno
          have d1 := X5.out.cell1
          clear hno q5 kp5 X3 XL3 Q3
          go_wp2_with fail
          refine (cfind_calls XL5.out.1 k (by omega)).mono ?_
          rintro e w6 ⟨hf, rfl⟩
          rcases hf with ⟨i, hi, hki, rfl⟩ | ⟨_, rfl⟩
          · exact absurd hki (HNo.out _ (abs_mem hi))
          have TF := hid (show ∃ S es', Two15 w w6 B S room al nl cl es' h (m + 1) ∧ es'.length ≤ j + 1 from ⟨S5, es, ⟨Q5.out.re (fun b hb => Q5.out.apart b (.inl hb)), XL5.out, LD.out⟩, by omega⟩)
          clear d1 X5 XL5 Q5
          go_wp2_with fail
          go_roundg (n - (j + 1))
          case measure => omega
          case rel => exact ⟨j + 1, _, _, _, h, m + 1, rfl, rfl, rfl, by go_num, by go_num, by omega, by omega, TF⟩
      · -- Put
        have IR3 := hid (IR.out.below Q3.out.below)
        have HA3 := hid (show ∀ b off, 0 < vn → va = some ⟨b, off, none⟩ → ¬ S2 b from fun b off h1 h2 h3 => by
          obtain ⟨b', off', e, hlt', _⟩ := IR.out.at' h1
          rw [h2] at e
          cases e
          exact Nat.lt_irrefl _ (Nat.lt_of_lt_of_le hlt' (Q3.out.ab _ h3)))
        go_wp2_with fail
        obtain ⟨K, hK⟩ : ∃ K, wr.heap.size = K := ⟨_, rfl⟩
        obtain ⟨w3', hw3⟩ : ∃ W, wr.alloc (.cells #[.bool true, .string k, .slice va vn vc] 31) = W := ⟨_, rfl⟩
        rw [hw3, hK] at X3 Q3
        rw [hw3] at XL3 IR3
        rw [hw3, hK]
        clear hw3 d0 d1 d2 p0 p1 p2
        refine (capt_calls Q3.out k (by omega) IR3.out (by omega) HA3.out).mono ?_
        rintro e w5 ⟨rfl, S5, q5, kp5⟩
        have X5 := hid (show Bx3 w5 K 31 (.bool true) (.string k) (.slice va vn vc) from (kp5 K (.inr rfl)).trans X3.out)
        have XL5 := hid (XL3.out.at' (fun b hb => kp5 b (.inl hb)))
        have Q5 := hid q5
        have d1 := X5.out.cell1
        have d2 := X5.out.cell2
        clear q5 kp5 X3 XL3 Q3 IR3
        go_wp2_with fail
        refine (cput_calls (ra := va) (rn := vn) (rc := vc) XL5.out.1 k rw' room (by omega)).mono ?_
        rintro e w6 ⟨⟨a6, n6, c6, rfl, x6⟩, b6⟩
        have hpl := xput_len es room (k, (va, vn, vc), rw')
        have q5s := Q5.out.below.size
        have TF := hid (show ∃ S es', Two15 w w6 B S room a6 n6 c6 es' h m ∧ es'.length ≤ j + 1 from ⟨S5, xput es room (k, (va, vn, vc), rw'), ⟨by
          rw [abs_put]
          exact Q5.out.grow b6 (fun b hb => by
            obtain ⟨q, hq, rfl⟩ := hb
            exact .inr (x6.2 q hq)), x6.lower (by omega), xput_leads LD.out IR.out⟩, by omega⟩)
        clear x6 b6 d1 d2 X5 XL5 Q5 hpl
        go_wp2_with fail
        go_roundg (n - (j + 1))
        case measure => omega
        case rel => exact ⟨j + 1, _, _, _, h, m, rfl, rfl, rfl, rfl, by go_num, by omega, by omega, TF⟩
    · have k1 : ¬ (j : Int) < n := by omega
      have habs : (abs_ es).length = nl := (abs_len es).trans hnl
      go_wp2_with fail
      refine (ckeys_calls T2.out.q).mono ?_
      rintro e w5 ⟨⟨a5, c5, rfl, t5⟩, b5⟩
      rw [habs] at t5
      have T5 := hid t5
      have D5 := hid (T2.out.grow b5)
      clear t5 b5 T2
      rw [habs]
      go_wp2_with fail
      refine (ccounts_calls D5.out.q).mono ?_
      rintro e w6 ⟨rfl, b6⟩
      have T6 := hid (T5.out.below b6)
      have D6 := hid (D5.out.grow b6)
      clear b6 T5 D5
      go_wp2_with fail
      refine (clen_calls D6.out.q).mono ?_
      rintro e w7 ⟨rfl, b7⟩
      have T7 := hid (T6.out.below b7)
      have D7 := hid (D6.out.grow b7)
      clear b7 T6 D6
      rw [habs]
      go_wp2_with fail
      go_loopg [144] nl (fun r kv wr => ∃ i : Nat, r = nl - i ∧ kv = .int .i64 (i : Int) ∧ i ≤ nl ∧ Hid (Below w7.heap.size w7 wr))
      case atStart => exact ⟨0, rfl, rfl, by omega, hid (Below.refl _ _)⟩
      case round =>
        obtain ⟨i, rfl, rfl, hi, HB⟩ := hrel
        by_cases hlt2 : i < nl
        · have i0 : (0 : Int) ≤ i := by omega
          have i1 : (i : Int) < nl := by omega
          have i2 : IntKind.i64.wrap ((i : Int) + 1) = i + 1 := i64_in (by omega) (by omega)
          obtain ⟨b8, o8, rfl, _, hc8⟩ := (T7.out.below HB.out).at' (by omega)
          obtain ⟨b9, o9, rfl, _, hc9⟩ := (D7.out.x.below HB.out).1.at' (by omega)
          have r0 := hc8 i hlt2
          have r1 := (hc9 i hlt2).1
          rw [keys_at es (by omega)] at r0
          obtain ⟨k, hk⟩ : ∃ k, xk es i = k := ⟨_, rfl⟩
          rw [hk] at r0 r1
          clear hc8 hc9 hk
          go_wp2_with fail
          go_quiet (fail)
          have HB2 := hid (below_drewN HB.out nq)
          go_wp2_with fail
          go_roundg (nl - (i + 1))
          case measure => omega
          case rel => exact ⟨i + 1, rfl, by go_num, by omega, HB2⟩
        · have i1 : ¬ (i : Int) < nl := by omega
          have BF := hid (D7.out.q.below.trans (HB.out.mono D7.out.q.below.size))
          clear HB
          go_wp2_with fail
          refine (cafixed_calls wr).mono ?_
          rintro e w9 ⟨rfl, b9⟩
          have B9 := hid (BF.out.trans (b9.mono BF.out.size))
          clear b9
          go_wp2_with fail
          go_ret
          exact ⟨rfl, B9.out⟩
end Go.Proofs.Ytbcanfelfdalbaa
