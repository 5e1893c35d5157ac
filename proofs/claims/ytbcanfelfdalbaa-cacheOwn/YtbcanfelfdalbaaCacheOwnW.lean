/-
  Walk of the law CacheOwn.
-/
import Derived.Test.YtbcanfelfdalbaaCacheLastW
import Derived.Test.YtbcanfelfdalbaaOpenCa
namespace Go.Proofs.Ytbcanfelfdalbaa
open Go.RowKit
set_option linter.unusedVariables false
open Pr (it)
theorem Try.infoIc : (Try.prog.info? 3).map (fun i => (i.zero, i.size, i.bytes)) = some (some (.int .i64 0), 1, 8) := by kernel_rfl
/-- The i-th key, and its row. -/
def Kown (rs : Nat → Pr.Row) (i : Nat) : Ca.Kx := (Utf8.encode (48 + (i : Int)), rs i)
theorem kown_key (rs : Nat → Pr.Row) (i : Nat) : (Kown rs i).1 = Utf8.encode (48 + (i : Int)) := by simp only [Kown]
theorem kown_row (rs : Nat → Pr.Row) (i : Nat) : (Kown rs i).2 = rs i := by simp only [Kown]
theorem kown_inj {rs : Nat → Pr.Row} {i j : Nat} (hi : i < 256) (hj : j < 256) (h : (Kown rs i).1 = (Kown rs j).1) : i = j := by
  have h2 : Utf8.encode (((48 + i : Nat) : Int)) = Utf8.encode (((48 + j : Nat) : Int)) := by
    have e1 : ((48 + i : Nat) : Int) = 48 + (i : Int) := by omega
    have e2 : ((48 + j : Nat) : Int) = 48 + (j : Int) := by omega
    rw [e1, e2, ← kown_key rs, ← kown_key rs]
    exact h
  have := Ca.enc_inj (by omega) (by omega) h2
  omega
/-- The first j of them, in whatever order. -/
def Mem (rs : Nat → Pr.Row) (j : Nat) (l : Ca.Kl) : Prop := (∀ x, x ∈ l ↔ ∃ i, i < j ∧ Kown rs i = x) ∧ l.length = j
theorem Mem.put {rs : Nat → Pr.Row} {j room : Nat} {l : Ca.Kl} (h : Mem rs j l) (hj : j < 200) (hr : j + 1 ≤ room) : Mem rs (j + 1) (Ca.put l room (Kown rs j)) := by
  obtain ⟨h1, h2⟩ := h
  have hw : Ca.wo l (Kown rs j).1 = l := Ca.wo_none (fun x hx e => by
    obtain ⟨i, hi, rfl⟩ := (h1 x).1 hx
    have := kown_inj (by omega) (by omega) e
    omega)
  have hy : Ca.young l (Kown rs j) = l ++ [Kown rs j] := by unfold Ca.young; rw [hw]
  have hp : Ca.put l room (Kown rs j) = l ++ [Kown rs j] := by
    unfold Ca.put
    rw [hy, List.length_append, List.length_singleton, if_neg (by omega)]
  rw [hp]
  refine ⟨fun x => ?_, by rw [List.length_append, List.length_singleton, h2]⟩
  rw [List.mem_append, List.mem_singleton, h1 x]
  constructor
  · rintro (⟨i, hi, e⟩ | e)
    · exact ⟨i, by omega, e⟩
    · exact ⟨j, by omega, e.symm⟩
  · rintro ⟨i, hi, e⟩
    by_cases g : i = j
    · subst g; exact .inr e.symm
    · exact .inl ⟨i, by omega, e⟩
theorem Mem.young {rs : Nat → Pr.Row} {j : Nat} {l : Ca.Kl} {e : Ca.Kx} (h : Mem rs j l) (hd : Ca.Dis l) (he : e ∈ l) : Mem rs j (Ca.young l e) :=
  ⟨fun x => (Ca.young_mem hd he x).trans (h.1 x), (Ca.young_len hd he).trans h.2⟩
theorem Mem.row {rs : Nat → Pr.Row} {j i : Nat} {l : Ca.Kl} {xs : Pr.Row} (h : Mem rs j l) (hj : j < 200) (hi : i < j) (hx : ((Kown rs i).1, xs) ∈ l) : xs = rs i := by
  obtain ⟨k, hk, e⟩ := (h.1 _).1 hx
  have e1 : (Kown rs k).1 = (Kown rs i).1 := by rw [e]
  have := kown_inj (by omega) (by omega) e1
  subst this
  have := congrArg Prod.snd e
  rw [kown_row] at this
  exact this.symm
theorem grown_mut {W W' : World} {r : Option Nat} (h : W.grownBy W' r) {S : Nat → Prop} (hS : ∀ k, r = some k → S k) : Mut S W W' :=
  ⟨h.os, h.tape, h.output, h.size, fun k hk hn => h.block k hk (fun e => hn (hS k e.symm))⟩
/-- A cache beside a row of the call's own that grew. -/
theorem Cq.grown {w0 W w' : World} {B room h m : Nat} {S X : Nat → Prop} {l : Ca.Kl} {r : Option Nat} {v' : Value} (H : Cq w0 W B S room l h m X) (hg : W.grownBy w' r) (hx : ∀ k, r = some k → X k ∧ w0.heap.size ≤ k)
    (hv : v'.ownBlock = r ∨ v'.ownBlock = some W.heap.size) (hlt : ∀ k, v'.ownBlock = some k → k < w'.heap.size) : Cq w0 w' B S room l h m (fun k => v'.ownBlock = some k) := by
  have h2 := H.keep (grown_mut hg (S := fun k => r = some k) (fun k e => e)) (fun k e => (hx k e).1) (fun k e => (hx k e).2)
  refine h2.re (fun k hk => ⟨hlt k hk, fun e => ?_⟩)
  rcases hv with h3 | h3
  · exact (H.apart k (hx k (h3.symm.trans hk)).1).2 e
  · rw [h3] at hk
    have h4 := Option.some.inj hk
    have h5 := H.lt k e
    omega
/-- A place of a row of the call's own written. -/
theorem own_put {w : World} {base g n cap : Nat} {t : TypeId} {xs : Pr.Row} (h : w.ownsRow base t 1 (.slice (some ⟨g, 0, none⟩) n cap) n (iv xs)) {i : Nat} (hi : i < n) (y : Int) :
    (∃ u, w.cell? ⟨g, i, none⟩ = some u) ∧ w.frozen? ⟨g, i, none⟩ = false ∧ ∃ ys, (w.setCell ⟨g, i, none⟩ (.int .i64 y)).ownsRow base t 1 (.slice (some ⟨g, 0, none⟩) n cap) n (iv ys) := by
  have hl : (iv xs).length = n * 1 := h.1
  refine ⟨?_, h.frozenAt i, xs.set i y, ?_⟩
  · rw [h.cellAt i (by omega)]
    exact ⟨_, List.getElem?_eq_getElem (by omega)⟩
  · have h2 := (h.stored i (.int .i64 y)).1
    have e : iv (xs.set i y) = (iv xs).set i (.int .i64 y) := by unfold iv; rw [List.map_set]
    rw [e]
    exact h2
theorem own_head {w : World} {base n c : Nat} {t : TypeId} {a : Option Addr} {xs : List Value} (h : w.ownsRow base t 1 (.slice a n c) n xs) (hn : 0 < n) : ∃ g, a = some ⟨g, 0, none⟩ := by
  rcases h.2 with ⟨e, h0⟩ | ⟨g, cap, cur, e, _⟩
  · omega
  · cases e; exact ⟨g, rfl⟩
set_option maxRecDepth 100000 in
set_option maxHeartbeats 12800000 in
theorem cacheOwn_calls {w : World} {a : Option Addr} {n c : Nat} {vs : Nat → Sv} {rs : Nat → Pr.Row} (RS : Crs w a n c vs rs) (y : Int) :
    Calls Try.prog 4 #[.slice a n c, .int .i64 y] w fun e w' => e = .returned (.bool true) ∧ Below w.heap.size w w' := by
  have hmx := RS.mx
  unfold maxLen at hmx
  obtain ⟨i0, hi, hz0, hz1, hz2⟩ := info_parts Try.infoIc
  have HR := hid RS
  clear RS
  by_cases hn : n ≤ 100
  rotate_left
  · have l1 : (100 : Int) < n := by omega
    go_enter Try.func4, Try.ntmps4
    go_wp2_with fail
    refine (cafixed_calls w).mono ?_
    rintro e w2 ⟨rfl, b2⟩
    have B2 := hid b2
    go_wp2_with fail
    go_ret
    exact ⟨rfl, B2.out⟩
  have l1 : ¬ (100 : Int) < n := by omega
  go_enter Try.func4, Try.ntmps4
  go_wp2_with fail
  refine (cnew_yes w w (Below.refl _ _) 100 (by omega)).mono ?_
  rintro e w1 ⟨⟨B, S, rfl, q1⟩, _⟩
  have Q1 := hid (show ∃ (l : Ca.Kl) (h m : Nat) (S : Nat → Prop), Cq w w1 B S 100 l h m (fun _ => False) ∧ Mem rs 0 l ∧ h + m ≤ 0 from ⟨_, _, _, S, q1, ⟨fun x => ⟨fun h => (by cases h), fun ⟨i, hi, _⟩ => by omega⟩, rfl⟩, by omega⟩)
  clear q1
  go_wp2_with fail
  go_loopg [24] n (fun r kv wr => ∃ j : Nat, r = n - j ∧ kv = .int .i64 (j : Int) ∧ j ≤ n ∧ Hid (∃ (l : Ca.Kl) (h m : Nat) (S : Nat → Prop), Cq w wr B S 100 l h m (fun _ => False) ∧ Mem rs j l ∧ h + m ≤ j))
  case atStart => exact ⟨0, rfl, rfl, by omega, Q1⟩
  case round =>
    clear Q1
    obtain ⟨j, rfl, rfl, hj, HQ⟩ := hrel
    obtain ⟨l, h, m, S, q, hm, hhm⟩ := HQ.out
    have Q := hid q
    have HM := hid hm
    have hlj : l.length = j := hm.2
    clear q hm HQ
    by_cases hlt : j < n
    · have l0 : (0 : Int) ≤ j := by omega
      have l2 : (j : Int) < n := by omega
      have l3 : IntKind.i64.wrap ((j : Int) + 1) = j + 1 := i64_in (by omega) (by omega)
      have l4 : IntKind.i64.wrap (48 + (j : Int)) = 48 + j := i64_in (by omega) (by omega)
      have l5 : IntKind.i32.wrap (48 + (j : Int)) = 48 + j := by simp [IntKind.wrap, IntKind.bits, IntKind.signed]; omega
      have RR := HR.out.below Q.out.below
      obtain ⟨b, off, rfl, hbl, hc⟩ := RR.at' j hlt
      have IR := hid (RR.rows j hlt)
      obtain ⟨⟨sa, sn, sc⟩, hs⟩ : ∃ s, vs j = s := ⟨_, rfl⟩
      rw [hs] at hc IR
      unfold sv at hc
      simp only at hc IR
      have hil := IR.out.len
      have hic := IR.out.le
      have him := IR.out.mx
      unfold maxLen at him
      clear hs RR
      by_cases h50 : sn ≤ 50
      rotate_left
      · have m1 : (50 : Int) < sn := by omega
        go_wp2_with fail
        refine (cafixed_calls wr).mono ?_
        rintro e w2 ⟨rfl, b2⟩
        have B2 := hid (Q.out.below.trans (b2.mono Q.out.below.size))
        clear b2
        go_wp2_with fail
        go_ret
        exact ⟨rfl, B2.out⟩
      have m1 : ¬ (50 : Int) < sn := by omega
      have c2 := (Below.refl wr.heap.size wr).alloc (Nat.le_refl _) (.cells #[] 3)
      have I2 := hid (IR.out.below c2)
      have Q2 := hid (Q.out.grow c2 (X' := fun k => k = wr.heap.size) (fun k hk => .inr ⟨by omega, by simp; omega⟩))
      have hq0 := Q.out.below.size
      clear c2
      go_wp2_with (at_builtin; refine wpList_append_src rfl _ _ 29 rfl wr.heap.size 3 i0 (.int .i64 0) 1 8 Try.underlying29 hi hz0 hz1 hz2 rfl (by decide) _ 0 _ rfl (own_empty wr.heap.size rfl (Nat.le_refl _)) sa sn sc (iv (rs j)) rfl I2.out.src (by unfold maxLen; omega) (by omega) (by simp) ?_; intro v3 w3 ho3 hg3 hb3; have O3 := hid ho3; have G3 := hid hg3; have V3 := hid hb3; clear ho3 hg3 hb3)
      have o3 := O3.out
      rw [Nat.zero_add, List.nil_append] at o3
      have Q3 := hid (Q2.out.grown (v' := v3) G3.out (fun k hk => ⟨(Option.some.inj (show some wr.heap.size = some k from hk)).symm, by have := Option.some.inj (show some wr.heap.size = some k from hk); omega⟩) V3.out (fun k hk => (o3.lt k hk).2))
      obtain ⟨a3, c3, rfl, i3⟩ := Ir.ofOwn o3
      have I3 := hid i3
      have P3 := hid o3
      clear o3 i3 O3 G3 V3 Q2 I2
      refine (capt_calls Q3.out (Utf8.encode (48 + (j : Int))) (enc_small (by omega) (by omega)) I3.out (by omega) (fun b off _ e => (Q3.out.apart b (own_blk P3.out e)).2)).mono ?_
      rintro e w4 ⟨rfl, S4, q4, k4⟩
      have eK : (Utf8.encode (48 + (j : Int)), rs j) = Kown rs j := by simp only [Kown]
      rw [eK] at q4
      have Q4 := hid q4
      have M4 := hid (HM.out.put (room := 100) (by omega) (by omega))
      have P4 := hid (show ∃ xs, w4.ownsRow wr.heap.size 3 1 (.slice a3 sn c3) sn (iv xs) from ⟨_, row_at P3.out (fun k hk => k4 k hk)⟩)
      have hl4 : (Ca.put l 100 (Kown rs j)).length = j + 1 := M4.out.2
      obtain ⟨l4, hl4d⟩ : ∃ l4, Ca.put l 100 (Kown rs j) = l4 := ⟨_, rfl⟩
      rw [hl4d] at Q4 M4 hl4
      clear q4 k4 eK P3 Q3 I3 hl4d
      go_wp2_with fail
      go_loopg [45] sn (fun r kv wr2 => ∃ i : Nat, r = sn - i ∧ kv = .int .i64 (i : Int) ∧ i ≤ sn ∧ Hid (Cq w wr2 B S4 100 l4 h m (fun k => (Value.slice a3 sn c3).ownBlock = some k)) ∧ Hid (∃ xs, wr2.ownsRow wr.heap.size 3 1 (.slice a3 sn c3) sn (iv xs)))
      case atStart => exact ⟨0, rfl, rfl, by omega, Q4, P4⟩
      case round =>
        clear Q4 P4
        obtain ⟨i, rfl, rfl, hi5, Q5, P5⟩ := hrel
        by_cases hlt5 : i < sn
        · have g0 : (0 : Int) ≤ i := by omega
          have g1 : (i : Int) < sn := by omega
          have g2 : IntKind.i64.wrap ((i : Int) + 1) = i + 1 := i64_in (by omega) (by omega)
          obtain ⟨xs5, p5⟩ := P5.out
          obtain ⟨g, rfl⟩ := own_head p5 (by omega)
          obtain ⟨⟨u5, a5⟩, b5, ys5, o5⟩ := own_put p5 hlt5 y
          have hgl := (p5.lt g rfl).1
          have Q6 := hid (Q5.out.keep (T := fun k => k = g) (Mut.set _ g i (.int .i64 y) rfl) (fun k hk => by rw [hk]; rfl) (fun k hk => by omega))
          have P6 := hid o5
          clear p5 o5 P5 Q5
          go_wp2_with fail
          go_roundg (sn - (i + 1))
          case measure => omega
          case rel => exact ⟨i + 1, rfl, by go_num, by omega, Q6, hid ⟨_, P6.out⟩⟩
        · have g1 : ¬ (i : Int) < sn := by omega
          clear P5
          go_wp2_with fail
          refine (cget_calls Q5.out (Utf8.encode (48 + (j : Int))) (enc_small (by omega) (by omega)) (by omega)).mono ?_
          rintro e w6 (⟨xs, a6, n6, c6, hx, rfl, o6, S6, q6, _⟩ | ⟨hno, _⟩)
          rotate_left
          · exact absurd (kown_key rs j) (hno (Kown rs j) ((M4.out.1 _).2 ⟨j, by omega, rfl⟩))
          have hxr : xs = rs j := M4.out.row (by omega) (i := j) (by omega) (by rw [kown_key]; exact hx)
          have M6 := hid (M4.out.young Q5.out.dis hx)
          have hn6 : n6 = sn := by have := (Ir.ofOwn' o6).len; rw [hxr] at this; omega
          subst hn6
          have hb6 := o6.lt
          have hw6 : w.heap.size ≤ _ := Q5.out.below.size
          have Q6 := hid (q6.re (X' := fun k => (Value.slice a6 n6 c6).ownBlock = some k) (fun k hk => q6.apart k (.inr hk)))
          have P6 := hid (Exists.intro (p := fun xs => w6.ownsRow w.heap.size 3 1 (.slice a6 n6 c6) n6 (iv xs)) xs (o6.mono hw6))
          obtain ⟨l6, hl6⟩ : ∃ l6, Ca.young l4 (Utf8.encode (48 + (j : Int)), xs) = l6 := ⟨_, rfl⟩
          rw [hl6] at Q6 M6
          clear hx o6 q6 hxr hb6 hw6 hl6 Q5
          go_wp2_with fail
          go_loopg [64] n6 (fun r kv wr3 => ∃ i : Nat, r = n6 - i ∧ kv = .int .i64 (i : Int) ∧ i ≤ n6 ∧ Hid (Cq w wr3 B S6 100 l6 (h + 1) m (fun k => (Value.slice a6 n6 c6).ownBlock = some k)) ∧ Hid (∃ xs, wr3.ownsRow w.heap.size 3 1 (.slice a6 n6 c6) n6 (iv xs)))
          case atStart => exact ⟨0, rfl, rfl, by omega, Q6, P6⟩
          case round =>
            clear Q6 P6
            obtain ⟨i7, rfl, rfl, hi7, Q7, P7⟩ := hrel
            by_cases hlt7 : i7 < n6
            · have g0 : (0 : Int) ≤ i7 := by omega
              have g2 : (i7 : Int) < n6 := by omega
              have g3 : IntKind.i64.wrap ((i7 : Int) + 1) = i7 + 1 := i64_in (by omega) (by omega)
              obtain ⟨xs7, p7⟩ := P7.out
              obtain ⟨g, rfl⟩ := own_head p7 (by omega)
              obtain ⟨⟨u7, a7⟩, b7, ys7, o7⟩ := own_put p7 hlt7 y
              have hgl := (p7.lt g rfl).1
              have Q8 := hid (Q7.out.keep (T := fun k => k = g) (Mut.set _ g i7 (.int .i64 y) rfl) (fun k hk => by rw [hk]; rfl) (fun k hk => by omega))
              have P8 := hid o7
              clear p7 o7 P7 Q7
              go_wp2_with fail
              go_roundg (n6 - (i7 + 1))
              case measure => omega
              case rel => exact ⟨i7 + 1, rfl, by go_num, by omega, Q8, hid ⟨_, P8.out⟩⟩
            · have g2 : ¬ (i7 : Int) < n6 := by omega
              obtain ⟨xs7, p7⟩ := P7.out
              have P8 := hid p7
              have W7 := hid (show ∃ W, W = wr from ⟨_, rfl⟩)
              have ca := (Below.refl wr.heap.size wr).alloc (Nat.le_refl _) (.cells #[.int .i64 y] 3)
              have Q8 := hid (Q7.out.grow ca (X' := fun k => (Value.slice a6 n6 c6).ownBlock = some k) (fun k hk => .inl hk))
              have hsz := Q7.out.below.size
              clear p7 P7 ca W7
              go_wp2_with (at_builtin; refine wpList_append_src rfl _ _ 29 rfl w.heap.size 3 i0 (.int .i64 0) 1 8 Try.underlying29 hi hz0 hz1 hz2 rfl (by decide) (.slice a6 n6 c6) n6 (iv xs7) rfl (own_below P8.out ((Below.refl _ _).alloc (Nat.le_refl _) _)) (some ⟨wr.heap.size, 0, none⟩) 1 1 [.int .i64 y] rfl (Src.new #[.int .i64 y] 3 wr.heap.size rfl rfl (fun u hu => by simp at hu; subst hu; rfl)) (by unfold maxLen; omega) (by omega) (by simp; omega) ?_; intro v9 w9 ho9 hg9 hb9; have O9 := hid ho9; have G9 := hid hg9; have V9 := hid hb9; clear ho9 hg9 hb9)
              have Q9 := hid (Q8.out.grown (v' := v9) G9.out (fun k hk => ⟨hk, (P8.out.lt k hk).1⟩) V9.out (fun k hk => (O9.out.lt k hk).2))
              have QF := hid (show ∃ (l : Ca.Kl) (h m : Nat) (S : Nat → Prop), Cq w w9 B S 100 l h m (fun _ => False) ∧ Mem rs (j + 1) l ∧ h + m ≤ j + 1 from ⟨l6, h + 1, m, S6, Q9.out.re (fun k hk => hk.elim), M6.out, by omega⟩)
              clear Q8 P8 O9 G9 V9 Q9
              go_roundg (n - (j + 1))
              case measure => omega
              case rel => exact ⟨j + 1, rfl, by go_num, by omega, QF⟩
    · have l2 : ¬ (j : Int) < n := by omega
      obtain rfl : n = j := by omega
      have Q2 := hid (show ∃ (l : Ca.Kl) (h m : Nat) (S : Nat → Prop), Cq w wr B S 100 l h m (fun _ => False) ∧ Mem rs n l ∧ h + m ≤ n + 0 from ⟨l, h, m, S, Q.out, HM.out, hhm⟩)
      clear Q HM hhm
      go_wp2_with fail
      go_loopg [79] n (fun r kv wr => ∃ j : Nat, r = n - j ∧ kv = .int .i64 (j : Int) ∧ j ≤ n ∧ Hid (∃ (l : Ca.Kl) (h m : Nat) (S : Nat → Prop), Cq w wr B S 100 l h m (fun _ => False) ∧ Mem rs n l ∧ h + m ≤ n + j))
      case atStart => exact ⟨0, rfl, rfl, by omega, Q2⟩
      case round =>
        clear Q2
        obtain ⟨j, rfl, rfl, hj, HQ⟩ := hrel
        obtain ⟨l, h, m, S, q, hm, hhm⟩ := HQ.out
        have Q := hid q
        have HM := hid hm
        have hlj : l.length = n := hm.2
        clear q hm HQ
        by_cases hlt : j < n
        · have l0 : (0 : Int) ≤ j := by omega
          have l2 : (j : Int) < n := by omega
          have l3 : IntKind.i64.wrap ((j : Int) + 1) = j + 1 := i64_in (by omega) (by omega)
          have l4 : IntKind.i64.wrap (48 + (j : Int)) = 48 + j := i64_in (by omega) (by omega)
          have l5 : IntKind.i32.wrap (48 + (j : Int)) = 48 + j := by simp [IntKind.wrap, IntKind.bits, IntKind.signed]; omega
          have RR := HR.out.below Q.out.below
          obtain ⟨b, off, rfl, hbl, hc⟩ := RR.at' j hlt
          have IR := hid (HR.out.rows j hlt)
          obtain ⟨⟨sa, sn, sc⟩, hs⟩ : ∃ s, vs j = s := ⟨_, rfl⟩
          rw [hs] at hc IR
          unfold sv at hc
          simp only at hc IR
          clear hs RR
          go_wp2_with fail
          refine (cget_calls Q.out (Utf8.encode (48 + (j : Int))) (enc_small (by omega) (by omega)) (by omega)).mono ?_
          rintro e w6 (⟨xs, a6, n6, c6, hx, rfl, o6, S6, q6, _⟩ | ⟨hno, _⟩)
          rotate_left
          · exact absurd (kown_key rs j) (hno (Kown rs j) ((HM.out.1 _).2 ⟨j, by omega, rfl⟩))
          have hxr : xs = rs j := HM.out.row (by omega) (i := j) (by omega) (by rw [kown_key]; exact hx)
          have M6 := hid (HM.out.young Q.out.dis hx)
          have Q6 := hid (q6.re (X' := fun _ => False) (fun k hk => hk.elim))
          have I6 := hid (Ir.ofOwn' o6)
          have J6 := hid (IR.out.below q6.below)
          clear hx o6 q6
          go_wp2_with fail
          refine (same_calls I6.out J6.out).mono ?_
          rintro e w7 ⟨hs, b7⟩
          obtain rfl := saysB hs hxr
          have Q7 := hid (show ∃ (l : Ca.Kl) (h m : Nat) (S : Nat → Prop), Cq w w7 B S 100 l h m (fun _ => False) ∧ Mem rs n l ∧ h + m ≤ n + (j + 1) from ⟨_, _, _, _, Q6.out.grow b7 (fun k hk => hk.elim), M6.out, by omega⟩)
          clear b7 hs
          go_wp2_with fail
          go_roundg (n - (j + 1))
          case measure => omega
          case rel => exact ⟨j + 1, rfl, by go_num, by omega, Q7⟩
        · have l2 : ¬ (j : Int) < n := by omega
          go_wp2_with fail
          refine (cafixed_calls wr).mono ?_
          rintro e w8 ⟨rfl, b8⟩
          have Q8 := hid (Q.out.grow b8 (X' := fun _ => False) (fun k hk => hk.elim))
          clear b8
          go_wp2_with fail
          refine (clen_calls Q8.out).mono ?_
          rintro e w9 ⟨rfl, b9⟩
          have B9 := hid (Q8.out.below.trans (b9.mono Q8.out.below.size))
          clear b9
          rw [hlj]
          go_wp2_with fail
          go_ret
          exact ⟨rfl, B9.out⟩
end Go.Proofs.Ytbcanfelfdalbaa
