/-
  A coder in memory, slices.Clone at texts, and the walk of encode.New.
-/
import Derived.Test.YtcjakjmhghoilaaEnR
import Derived.Test.YtcjakjmhghoilaaLotP
import Derived.Test.YtcjakjmhghoilaaEnL
import Derived.Test.YtcjakjmhghoilaaRdStep
import Derived.Test.YtcjakjmhghoilaaLotG
import Derived.Deep.RegionLaw
namespace Go.Proofs.Ytcjakjmhghoilaa
open Go.RowKit Go.Maps
set_option linter.unusedVariables false
open Pr (it)
theorem sl_one (w : World) (t : TypeId) (x : Int) (hx : 0 ≤ x ∧ x ≤ 255) : Sl (w.alloc (.cells #[.int .u8 x] t)) (some ⟨w.heap.size, 0, none⟩) 1 1 (fun _ => x) :=
  ⟨Nat.le_refl _, by decide, fun _ => hx, fun h => absurd h (by simp), fun _ => ⟨_, _, rfl, by simp, fun i hi => by
    have h := heap_alloc_new w (Obj.cells #[.int .u8 x] t)
    obtain rfl : i = 0 := by omega
    simp only [World.cell?, h]; rfl⟩⟩
/-- A block of a slice, 256 numbers and a function. -/
def Cb (w : World) (B : Nat) (x y : Value) (g : Nat → Int) : Prop := ∃ cs : Array Value, w.heap[B]? = some (.cells cs 57 (0, 0)) ∧ cs.size = 258 ∧ cs[0]? = some x ∧ (∀ i, i < 256 → cs[1 + i]? = some (.int .i64 (g i))) ∧ cs[257]? = some y
theorem Cb.lt {w : World} {B : Nat} {x y : Value} {g : Nat → Int} (h : Cb w B x y g) : B < w.heap.size := by obtain ⟨cs, h1, _⟩ := h; exact (Array.getElem?_eq_some_iff.1 h1).1
theorem Cb.below {w w' : World} {B N : Nat} {x y : Value} {g : Nat → Int} (h : Cb w B x y g) (hb : Below N w w') (hB : B < N) : Cb w' B x y g := by
  obtain ⟨cs, h1, h2⟩ := h
  exact ⟨cs, (hb.block B hB).trans h1, h2⟩
theorem Cb.alloc {w : World} {B : Nat} {x y : Value} {g : Nat → Int} (h : Cb w B x y g) (o : Obj) : Cb (w.alloc o) B x y g := h.below (Below.refl _ _ |>.alloc (Nat.le_refl _) o) h.lt
theorem Cb.c0 {w : World} {B : Nat} {x y : Value} {g : Nat → Int} (h : Cb w B x y g) : w.cell? ⟨B, 0, none⟩ = some x := by
  obtain ⟨cs, h1, h2, h3, h4, h5⟩ := h
  simp only [World.cell?, h1]; exact h3
theorem Cb.num {w : World} {B : Nat} {x y : Value} {g : Nat → Int} (h : Cb w B x y g) {i : Nat} (hi : i < 256) : w.cell? ⟨B, 1 + i, none⟩ = some (.int .i64 (g i)) := by
  obtain ⟨cs, h1, h2, h3, h4, h5⟩ := h
  simp only [World.cell?, h1]; exact h4 i hi
theorem Cb.c257 {w : World} {B : Nat} {x y : Value} {g : Nat → Int} (h : Cb w B x y g) : w.cell? ⟨B, 257, none⟩ = some y := by
  obtain ⟨cs, h1, h2, h3, h4, h5⟩ := h
  simp only [World.cell?, h1]; exact h5
theorem Cb.fr {w : World} {B : Nat} {x y : Value} {g : Nat → Int} (h : Cb w B x y g) (j : Nat) : w.frozen? ⟨B, j, none⟩ = false := by
  obtain ⟨cs, h1, h2, h3, h4, h5⟩ := h
  simp only [World.frozen?, h1]; rfl
theorem Cb.set {w : World} {B : Nat} {x y : Value} {g : Nat → Int} (h : Cb w B x y g) {i : Nat} (hi : i < 256) (v : Int) : Cb (w.setCell ⟨B, 1 + i, none⟩ (.int .i64 v)) B x y (fun k => if k = i then v else g k) := by
  obtain ⟨cs, h1, h2, h3, h4, h5⟩ := h
  obtain ⟨hlt, hk⟩ := Array.getElem?_eq_some_iff.1 h1
  refine ⟨cs.set! (1 + i) (.int .i64 v), ?_, by simp [h2], ?_, fun k hk2 => ?_, ?_⟩
  · show (w.heap.modify B _)[B]? = _
    rw [Array.getElem?_eq_getElem (by rw [Array.size_modify]; exact hlt), Array.getElem_modify_self, hk]
    simp
  · rw [← h3]; simp
  · show (cs.set! (1 + i) (.int .i64 v))[1 + k]? = some (.int .i64 (if k = i then v else g k))
    by_cases e : k = i
    · subst e; rw [if_pos rfl, Array.set!_eq_setIfInBounds, Array.getElem?_setIfInBounds, if_pos rfl, if_pos (by rw [h2]; omega)]
    · rw [if_neg e, ← h4 k hk2, Array.set!_eq_setIfInBounds, Array.getElem?_setIfInBounds_ne (by omega)]
  · rw [← h5]; simp [Array.getElem?_setIfInBounds]; omega
theorem zero_size : Try.zeroCells57.size = 258 := by kernel_rfl
theorem zero_nums : Try.zeroCells57.extract 1 257 = (List.replicate 256 (Value.int .i64 0)).toArray := by kernel_rfl
theorem zero_num {i : Nat} (h : i < 256) : Try.zeroCells57[1 + i]? = some (.int .i64 0) := by
  have e : (Try.zeroCells57.extract 1 257)[i]? = some (.int .i64 0) := by rw [zero_nums, List.getElem?_toArray, List.getElem?_replicate, if_pos h]
  rw [Array.getElem?_extract] at e
  split at e
  · exact e
  · cases e
theorem Cb.new (w : World) (x y : Value) : Cb (w.alloc (.cells ((Try.zeroCells57.setIfInBounds 0 x).setIfInBounds 257 y) 57)) w.heap.size x y (fun _ => 0) :=
  ⟨_, heap_alloc_new w _, by rw [Array.size_setIfInBounds, Array.size_setIfInBounds, zero_size], by rw [Array.getElem?_setIfInBounds_ne (by omega), Array.getElem?_setIfInBounds, if_pos rfl, if_pos (by rw [zero_size]; omega)], fun i hi => by
    rw [← zero_num hi]
    rw [Array.getElem?_setIfInBounds_ne (by omega), Array.getElem?_setIfInBounds_ne (by omega)], by rw [Array.getElem?_setIfInBounds, if_pos rfl, if_pos (by rw [Array.size_setIfInBounds, zero_size]; omega)]⟩
/-- A table's Find, as a value. -/
def fv (D : Nat) : Value := .func (.func 25) #[.pointer (some ⟨D, 0, none⟩)] #[]
/-- A coder in memory. -/
def Cd (w : World) (B : Nat) (ts : Vc.Toks) (ms : List Mg4) : Prop := ∃ a c D, Cb w B (.slice a ts.length c) (fv D) (fun i => Vc.bt ts (UInt8.ofNat i)) ∧ Ts w a ts.length c ts ∧ TbIn w D ms ∧ Vc.MayT ts ∧ Vc.MayM ts ms
theorem Cd.below {w w' : World} {B : Nat} {ts : Vc.Toks} {ms : List Mg4} (h : Cd w B ts ms) (hb : Below w.heap.size w w') : Cd w' B ts ms := by
  obtain ⟨a, c, D, h1, h2, h3, h4, h5⟩ := h
  exact ⟨a, c, D, h1.below hb h1.lt, h2.below hb, h3.below hb, h4, h5⟩
/-- What New answers. -/
def EwOut (ts : Vc.Toks) (ms : List Mg4) (sp : Vc.Sps) (e : Ending) (w' : World) : Prop :=
  (Vc.May ts ms sp ∧ ∃ B, e = .returned (.tuple #[.pointer (some ⟨B, 0, none⟩), .int .i64 0]) ∧ Cd w' B ts ms) ∨ (¬ Vc.May ts ms sp ∧ e = .returned (.tuple #[.pointer none, .int .i64 2]))
def OfV (ts : Vc.Toks) (s : ByteArray) (W : World) (v : Value) (w' : World) : Prop := (∃ r, v = .int .i64 r ∧ Vc.OfIs ts s r) ∧ Below W.heap.size W w'
theorem of_v {W : World} {fn : Nat} {args : Array Value} {ts : Vc.Toks} {s : ByteArray} (h : Calls Try.prog fn args W fun e w' => (∃ r, e = .returned (.int .i64 r) ∧ Vc.OfIs ts s r) ∧ Below W.heap.size W w') : Calls Try.prog fn args W fun e w' => ∃ v, e = .returned v ∧ OfV ts s W v w' :=
  h.mono fun e w' ⟨⟨r, he, hr⟩, hb⟩ => ⟨_, he, ⟨r, rfl, hr⟩, hb⟩
theorem Try.infoTx : (Try.prog.info? 9).map (fun i => (i.zero, i.size, i.bytes)) = some (some (.string ⟨#[]⟩), 1, 16) := by kernel_rfl
theorem Try.eqNilT (w : World) : (binOp .eql 22 (.slice none 0 0) (.slice none 0 0)).run Try.prog w = .ok (.bool true) w := by kernel_rfl
theorem Try.eqSomeT (ad : Addr) (n c : Nat) (w : World) : (binOp .eql 22 (.slice (some ad) n c) (.slice none 0 0)).run Try.prog w = .ok (.bool false) w := by kernel_rfl
set_option maxRecDepth 100000 in
set_option maxHeartbeats 3200000 in
theorem cloneT_calls {w : World} {a : Option Addr} {n c : Nat} {xs : List ByteArray} (R : Ts w a n c xs) (hn : n ≤ 1000000) :
    Calls Try.prog 24 #[.slice a n c] w fun e w' => (∃ a2 c2, e = .returned (.slice a2 n c2) ∧ Ts w' a2 n c2 xs) ∧ Below w.heap.size w w' := by
  obtain ⟨i0, hi, hz0, hz1, hz2⟩ := info_parts Try.infoTx
  have hl := R.len
  have en := Try.eqNilT
  cases a with
  | none =>
    obtain ⟨rfl, rfl⟩ := R.nil rfl
    have R2 := hid R
    clear R
    go_enter Try.func24, Try.ntmps24
    go_wp2_with fail
    go_ret
    exact ⟨⟨_, _, rfl, R2.out⟩, Below.refl _ _⟩
  | some ad =>
    have B1 := hid ((Below.refl w.heap.size w).alloc (Nat.le_refl _) (.cells #[] 9))
    have R1 := hid (R.below B1.out)
    have es := Try.eqSomeT ad n c
    clear R en
    go_enter Try.func24, Try.ntmps24
    go_wp2_with (at_builtin; refine wpList_append_src rfl _ _ 22 rfl w.heap.size 9 i0 (.string ⟨#[]⟩) 1 16 Try.underlying22 hi hz0 hz1 hz2 rfl (by decide) _ 0 _ rfl (own_empty w.heap.size rfl (Nat.le_refl _)) (some ad) n c (tv xs) rfl R1.out.src (by unfold maxLen; omega) (by omega) (by simp) ?_; intro v3 w3 own gr loc; have O3 := hid own; have G3 := hid gr; clear own gr loc)
    go_ret
    have o3 := O3.out
    rw [Nat.zero_add, List.nil_append] at o3
    obtain ⟨a2, c2, rfl, t2⟩ := Ts.ofOwn o3
    exact ⟨⟨_, _, rfl, t2⟩, B1.out.grown G3.out (by simp) (fun k hk => Nat.le_of_eq (Option.some.inj (show some w.heap.size = some k from hk)))⟩
set_option maxRecDepth 100000 in
set_option maxHeartbeats 3200000 in
theorem enew_calls {w : World} {a am az : Option Addr} {n c nm cm ns cs : Nat} {ts : Vc.Toks} {ms : List Mg4} {sp : Vc.Sps} (V : Vo w a n c am nm cm az ns cs ts ms sp) (hz : ∀ i, i < n → (at_ ts i).size ≤ maxLen) :
    Calls Try.prog 11 #[.agg #[.slice a n c, .slice am nm cm, .slice az ns cs]] w fun e w' => EwOut ts ms sp e w' ∧ Below w.heap.size w w' := by
  have hlen := V.T.len
  have B0 := hid ((Below.refl w.heap.size w).alloc (Nat.le_refl _) (.cells #[.slice a n c, .slice am nm cm, .slice az ns cs] 26))
  have X0 := hid (Bx3.new w 26 (.slice a n c) (.slice am nm cm) (.slice az ns cs))
  have V0 := hid (V.below B0.out)
  have HZ := hid hz
  clear V hz
  have x0 := X0.out.cell0
  have x1 := X0.out.cell1
  have x2 := X0.out.cell2
  go_enter Try.func11, Try.ntmps11
  go_wp2_with fail
  refine (new_calls V0.out HZ.out).mono ?_
  rintro e w1 ⟨E1, b1⟩
  have X1 := hid (X0.out.below b1 X0.out.lt)
  have B1 := hid (B0.out.trans (b1.mono B0.out.size))
  have V1 := hid (V0.out.below b1)
  clear b1 X0 V0 B0 x0 x1 x2
  rcases E1 with ⟨hM, D, rfl, hD⟩ | ⟨hM, rfl⟩
  rotate_left
  · go_wp2_with fail
    go_ret2
    exact ⟨.inr ⟨hM, rfl⟩, B1.out⟩
  have D1 := hid hD
  have HM := hid hM
  have hn4 : n ≤ 1000000 := by have := hM.T.len; omega
  have HLen := hid hlen
  clear hD hM hlen
  have x0 := X1.out.cell0
  have x1 := X1.out.cell1
  have x2 := X1.out.cell2
  go_wp2_with fail
  refine (cloneT_calls V1.out.T hn4).mono ?_
  rintro e w2 ⟨⟨a2, c2, rfl, t2⟩, b2⟩
  have X2 := hid (X1.out.below b2 X1.out.lt)
  have B2 := hid (B1.out.trans (b2.mono B1.out.size))
  have V2 := hid (V1.out.below b2)
  have D2 := hid (TbIn.below D1.out b2)
  have T2 := hid t2
  clear b2 t2 X1 V1 B1 D1 x0 x1 x2
  have x0 := X2.out.cell0
  have x1 := X2.out.cell1
  have x2 := X2.out.cell2
  go_wp2_with fail
  have P3 := hid (Cb.new w2 (.slice a2 n c2) (.func (.func 25) #[.pointer (some ⟨D, 0, none⟩)] #[]))
  have B3 := hid ((Below.refl w2.heap.size w2).alloc (Nat.le_refl _) (.cells ((Try.zeroCells57.setIfInBounds 0 (.slice a2 n c2)).setIfInBounds 257 (.func (.func 25) #[.pointer (some ⟨D, 0, none⟩)] #[])) 57))
  obtain ⟨w3, hw3⟩ : ∃ w3, w2.alloc (.cells ((Try.zeroCells57.setIfInBounds 0 (.slice a2 n c2)).setIfInBounds 257 (.func (.func 25) #[.pointer (some ⟨D, 0, none⟩)] #[])) 57) = w3 := ⟨_, rfl⟩
  rw [hw3] at P3 B3 ⊢
  obtain ⟨N, hN⟩ : ∃ N, w2.heap.size = N := ⟨_, rfl⟩
  rw [hN] at P3 B3 ⊢
  have HN := hid hN
  clear hw3 hN x0 x1 x2
  go_loopg [23] 256 (fun r kv wr => ∃ j : Nat, r = 256 - j ∧ kv = .int .i64 (j : Int) ∧ j ≤ 256 ∧ Hid (Cb wr N (.slice a2 n c2) (.func (.func 25) #[.pointer (some ⟨D, 0, none⟩)] #[]) (fun i => if i < j then Vc.bt ts (UInt8.ofNat i) else 0)) ∧ Hid (Below N w2 wr))
  case atStart => exact ⟨0, rfl, rfl, by omega, P3, B3⟩
  case round =>
    clear P3 B3
    obtain ⟨j, rfl, rfl, hj, HP, HB⟩ := hrel
    have HB2 := hid (show Below w2.heap.size w2 wr from by rw [HN.out]; exact HB.out)
    by_cases hlt : j < 256
    · have l1 : (j : Int) < 256 := by omega
      have l2 : IntKind.i64.wrap ((j : Int) + 1) = j + 1 := i64_in (by omega) (by omega)
      have l3 : IntKind.u8.wrap (j : Int) = j := by simp [IntKind.wrap, IntKind.bits, IntKind.signed]; omega
      have XR := hid (X2.out.below HB2.out X2.out.lt)
      have XD := hid (XR.out.below (Below.refl wr.heap.size wr).drew XR.out.lt)
      have k0 := ((Below.refl wr.heap.size wr).alloc (Nat.le_refl _) (.cells #[.int .u8 (j : Int)] 5)).drew
      have XA := hid (XR.out.below k0 XR.out.lt)
      have VA := hid ((V2.out.below HB2.out).below k0)
      have PA := hid (HP.out.below k0 HP.out.lt)
      have BA := hid ((HB.out.alloc (by have := HB.out.size; have := HN.out; omega) (.cells #[.int .u8 (j : Int)] 5)).drew)
      have sl0 := sl_one wr 5 (j : Int) (by omega)
      have sl := sl0.below (Below.refl _ _).drew
      have cv := run_convert_sl (P := Try.prog) _ 27 5 9 Try.underlying27 Try.underlying5 Try.underlying9 sl
      rw [str_one] at cv
      have eb : UInt8.ofNat ((j : Int)).toNat = UInt8.ofNat j := by simp
      rw [eb] at cv
      obtain ⟨S1, hS1⟩ : ∃ S1, mk [UInt8.ofNat j] = S1 := ⟨_, rfl⟩
      rw [hS1] at cv
      have HC := hid (of_calls (am := am) (nm := nm) (cm := cm) (az := az) (ns := ns) (cs := cs) VA.out.T S1)
      have HS1 := hid hS1
      have x0 := XA.out.cell0
      have x1 := XA.out.cell1
      have x2 := XA.out.cell2
      have y0 := XD.out.cell0
      have y1 := XD.out.cell1
      have y2 := XD.out.cell2
      clear sl sl0 eb hS1
      go_wp2_with fail
      go_region_law (refine step_call_any (R := OfV ts S1 ((wr.alloc (.cells #[.int .u8 (j : Int)] 5)).drew)) (by rfl) 26 _ _ (by rfl) #[.agg #[.slice a n c, .slice am nm cm, .slice az ns cs], .string S1] (by rfl) (by kernel_rfl) (of_v HC.out) ?_; rintro v w5 ⟨⟨r, rfl, hr⟩, b5⟩; have HR := hid hr; have P5 := hid (PA.out.below b5 PA.out.lt); have p5 := P5.out.num hlt; have f5 := P5.out.fr (1 + j); clear hr)
      all_goals
        have hrz : r = Vc.bt ts (UInt8.ofNat j) := by
          have h := of_num HM.out.T HR.out
          rw [← HS1.out] at h
          exact h
        have hN6 : N ≤ ((wr.alloc (.cells #[.int .u8 (j : Int)] 5)).drew).heap.size := by have := BA.out.size; have := HN.out; omega
        have P6 := hid (show Cb (w5.setCell ⟨N, 1 + j, none⟩ (.int .i64 r)) N (.slice a2 n c2) (.func (.func 25) #[.pointer (some ⟨D, 0, none⟩)] #[]) (fun i => if i < j + 1 then Vc.bt ts (UInt8.ofNat i) else 0) from by
          have h := P5.out.set hlt r
          have e : (fun k => if k = j then r else if k < j then Vc.bt ts (UInt8.ofNat k) else 0) = fun k => if k < j + 1 then Vc.bt ts (UInt8.ofNat k) else (0 : Int) := by
            funext k
            by_cases hk : k = j
            · subst hk; rw [if_pos rfl, if_pos (by omega), hrz]
            · rw [if_neg hk]
              by_cases hk2 : k < j
              · rw [if_pos hk2, if_pos (by omega)]
              · rw [if_neg hk2, if_neg (by omega)]
          rw [← e]
          exact h)
        have B6 := hid ((BA.out.trans (b5.mono hN6)).setCell (p := ⟨N, 1 + j, none⟩) (Nat.le_refl _) (.int .i64 r))
        clear P5 p5 f5 hrz hN6 b5
        go_wp2_with fail
        go_roundg (256 - (j + 1))
        case measure => omega
        case rel => exact ⟨j + 1, rfl, by go_num, by omega, P6, B6⟩
    · have l1 : ¬ (j : Int) < 256 := by omega
      obtain rfl : j = 256 := by omega
      have BF := hid (B2.out.trans (HB2.out.mono B2.out.size))
      have CF := hid (show Cd wr N ts ms from ⟨a2, c2, D, by
        have h := HP.out
        obtain ⟨cs, h1, h2, h3, h4, h5⟩ := h
        rw [HLen.out]
        exact ⟨cs, h1, h2, h3, fun i hi => by rw [h4 i hi]; simp [hi], h5⟩, by rw [HLen.out]; exact T2.out.below HB2.out, TbIn.below D2.out HB2.out, HM.out.T, HM.out.M⟩)
      clear HB HB2 HP
      go_wp2_with fail
      go_ret2
      exact ⟨.inl ⟨HM.out, N, rfl, CF.out⟩, BF.out⟩
end Go.Proofs.Ytcjakjmhghoilaa
