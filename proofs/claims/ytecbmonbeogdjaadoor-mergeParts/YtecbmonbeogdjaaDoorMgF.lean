/-
  The walk of fixed: the chapter's examples.
-/
import Derived.Test.YtecbmonbeogdjaaDoorMgW3
import Derived.Lib.SlBytesConst
import Derived.Lib.SmallJoins
namespace Go.Proofs.YtecbmonbeogdjaaDoor
open Go.RowKit
set_option linter.unusedVariables false

theorem str_bytes (s : ByteArray) : str (bytesF s) s.size = s := (St.any s).eq_str.symm
/-- Bytes of a constant, just laid, as a slice. -/
theorem Sl.constM {w : World} (s : ByteArray) (n : Nat) (cs : Array Value) (t : TypeId) (fr : Nat × Nat) (b : Nat) (hb : b = w.heap.size) (hm : n ≤ maxLen) (h : ∀ i, i < n → cs[i]? = some (.int .u8 (bytesF s i))) : Sl (w.alloc (.cells cs t fr)) (some ⟨b, 0, none⟩) n n (bytesF s) := by
  subst hb
  refine ⟨Nat.le_refl _, hm, (St.any s).bd, fun e => absurd e (by simp), fun _ => ⟨w.heap.size, 0, rfl, by simp, fun i hi => ?_⟩⟩
  rw [World.cell?_alloc_mark, Nat.zero_add]
  exact h i hi

def sOne : ByteArray := ⟨#[118, 111, 99, 97, 98, 10, 97, 32, 48, 10, 109, 101, 114, 103, 101, 115, 10]⟩
def sTwo : ByteArray := ⟨#[118, 111, 99, 97, 98, 10]⟩
def lOne : ByteArray := ⟨#[97, 32, 48]⟩
theorem lns_one : lns sOne = [Mg.sVocab, lOne, Mg.sMerges] := by decide +kernel
theorem lns_two : lns sTwo = [Mg.sVocab] := by decide +kernel
theorem w0_one : Rk.w0 lOne = ⟨#[97]⟩ := by decide +kernel
theorem w1_one : Rk.w1 lOne = ⟨#[48]⟩ := by decide +kernel
theorem rd_a : Mg.RdIs ⟨#[97]⟩ ⟨#[97]⟩ := by
  refine ⟨bytesF ⟨#[97]⟩, 1, ⟨(St.any _).bd, by decide +kernel, fun i hi => ?_⟩, by decide +kernel⟩
  have h1 : i < 1 := hi
  obtain rfl : i = 0 := by omega
  decide +kernel
theorem row_one : Mg.RowIs lOne (⟨#[97]⟩, 0) := by
  refine ⟨by decide +kernel, by rw [w0_one]; exact rd_a, ?_, by decide +kernel⟩
  rw [w1_one]
  refine ⟨by decide +kernel, by decide +kernel, fun h => absurd h.1 (by decide +kernel), fun i hi => ?_⟩
  have h1 : i < 1 := hi
  obtain rfl : i = 0 := by omega
  decide +kernel
theorem file_one : Mg.FileIs [Mg.sVocab, lOne, Mg.sMerges] [(⟨#[97]⟩, 0)] [] 0 0 := by
  refine .inl ⟨?_, rfl, rfl⟩
  have u1 := (Mg.Run.zero [Mg.sVocab, lOne, Mg.sMerges]).step (s := Mg.sVocab) rfl (.inl ⟨rfl, rfl, rfl, rfl, rfl⟩)
  have u2 := u1.step (s := lOne) rfl (.inr (.inr (.inl ⟨rfl, by decide +kernel, _, row_one, by decide +kernel, rfl, rfl, rfl⟩)))
  exact u2.step (s := Mg.sMerges) rfl (.inr (.inl ⟨rfl, rfl, rfl, rfl, rfl⟩))
theorem file_two : Mg.FileIs [Mg.sVocab] [] [] 2 2 := by
  refine .inr (.inl ⟨rfl, rfl, 1, [], [], by omega, ?_, by decide, rfl⟩)
  exact (Mg.Run.zero [Mg.sVocab]).step (s := Mg.sVocab) rfl (.inl ⟨rfl, rfl, rfl, rfl, rfl⟩)
theorem file_none : Mg.FileIs [] [] [] 1 2 := .inr (.inl ⟨rfl, rfl, 0, [], [], by omega, Mg.Run.zero _, by decide, rfl⟩)
theorem cells_one : ∀ i, i < 17 → (#[.int .u8 118, .int .u8 111, .int .u8 99, .int .u8 97, .int .u8 98, .int .u8 10, .int .u8 97, .int .u8 32, .int .u8 48, .int .u8 10, .int .u8 109, .int .u8 101, .int .u8 114, .int .u8 103, .int .u8 101, .int .u8 115, .int .u8 10] : Array Value)[i]? = some (.int .u8 (bytesF sOne i)) := by
  intro i hi
  obtain rfl | rfl | rfl | rfl | rfl | rfl | rfl | rfl | rfl | rfl | rfl | rfl | rfl | rfl | rfl | rfl | rfl : i = 0 ∨ i = 1 ∨ i = 2 ∨ i = 3 ∨ i = 4 ∨ i = 5 ∨ i = 6 ∨ i = 7 ∨ i = 8 ∨ i = 9 ∨ i = 10 ∨ i = 11 ∨ i = 12 ∨ i = 13 ∨ i = 14 ∨ i = 15 ∨ i = 16 := by omega
  all_goals rfl
theorem cells_two : ∀ i, i < 6 → (#[.int .u8 118, .int .u8 111, .int .u8 99, .int .u8 97, .int .u8 98, .int .u8 10] : Array Value)[i]? = some (.int .u8 (bytesF sTwo i)) := by
  intro i hi
  obtain rfl | rfl | rfl | rfl | rfl | rfl : i = 0 ∨ i = 1 ∨ i = 2 ∨ i = 3 ∨ i = 4 ∨ i = 5 := by omega
  all_goals rfl

set_option maxRecDepth 100000 in
set_option maxHeartbeats 3200000 in
theorem fixed08_calls (w : World) : Calls Tryd.prog 7 #[] w fun e w' => e = .returned (.bool true) ∧ Below w.heap.size w w' := by
  have kc := fun (w : World) (C : Array Value) (n c : Nat) => Lib.run_convert_bytes_const (P := Tryd.prog) w 28 5 C n c Tryd.underlying28 Tryd.underlying5
  have kc2 : ∀ (w : World) (o o' : Obj) (C : Array Value) (n c : Nat), (convert 28 28 (.slice (some ⟨w.heap.size + 1 + 1, 0, none⟩) n c)).run Tryd.prog (((w.alloc o).alloc o').alloc (.cells C 5)) = .ok (.slice (some ⟨w.heap.size + 1 + 1, 0, none⟩) n c) (((w.alloc o).alloc o').alloc (.cells C 5 (C.size, C.size + 1))) := fun w o o' C n c => by
    have := kc ((w.alloc o).alloc o') C n c
    rwa [World.size_alloc, World.size_alloc] at this
  have h1 := str_bytes sOne
  have h2 := str_bytes sTwo
  rw [show sOne.size = 17 from rfl] at h1
  rw [show sTwo.size = 6 from rfl] at h2
  have H1 := hid h1
  have H2 := hid h2
  clear h1 h2
  go_enter Tryd.func7, Tryd.ntmps7
  go_wp2_with fail
  refine (mRead_calls _ 17 17 (bytesF sOne) _ (by omega) (Sl.constM sOne 17 _ _ _ _ rfl (by decide) cells_one) (by rw [H1.out, lns_one]; decide)).mono ?_
  rintro e w1 ⟨⟨rs, ps, ar, nr, cr, ap, np, cp, l1, e1, rfl, r1, p1, f1⟩, hb1⟩
  rw [H1.out, lns_one] at f1
  obtain ⟨rfl, rfl, rfl, rfl⟩ := f1.one file_one
  obtain rfl : 1 = nr := r1.len
  obtain rfl : 0 = np := p1.len
  have B1 := hid (((Below.refl _ w).alloc (Nat.le_refl _) _).trans (hb1.mono (by simp)))
  have s1 := B1.out.size
  have X1 := hid ((Bx2.new w1 25 (.slice ar 1 cr) (.slice ap 0 cp)).alloc (.cells #[.int .i64 0, .int .i64 0] 35))
  have Z1 := hid (Bx2.new (w1.alloc (.cells #[.slice ar 1 cr, .slice ap 0 cp] 25)) 35 (.int .i64 0) (.int .i64 0))
  rw [World.size_alloc] at Z1
  have C1 := hid ((B1.out.alloc s1 (.cells #[.slice ar 1 cr, .slice ap 0 cp] 25)).alloc (by simp; omega) (.cells #[.int .i64 0, .int .i64 0] 35))
  clear r1 p1 hb1 f1
  go_wp2_with fail
  refine (mRead_calls none 0 0 (fun _ => 0) _ (by omega) ⟨Nat.le_refl _, Nat.zero_le _, fun _ => ⟨Int.le_refl _, by show (0 : Int) ≤ 255; omega⟩, fun _ => ⟨rfl, rfl⟩, fun h => absurd h (by omega)⟩ (by decide +kernel)).mono ?_
  rintro e w2 ⟨⟨rs2, ps2, ar2, nr2, cr2, ap2, np2, cp2, l2, e2, rfl, r2, p2, f2⟩, hb2⟩
  rw [show lns (str (fun _ => 0) 0) = [] by decide +kernel] at f2
  obtain ⟨rfl, rfl, rfl, rfl⟩ := f2.one file_none
  obtain rfl : 0 = nr2 := r2.len
  obtain rfl : 0 = np2 := p2.len
  have X2 := hid (X1.out.below hb2 X1.out.lt)
  have Z2 := hid (Z1.out.below hb2 Z1.out.lt)
  have B2 := hid (C1.out.trans (hb2.mono C1.out.size))
  have s2 := B2.out.size
  have X2' := hid (((X2.out.alloc (.cells #[.slice ar2 0 cr2, .slice ap2 0 cp2] 25)).alloc (.cells #[.int .i64 1, .int .i64 2] 35)).alloc (.cells #[.int .u8 118, .int .u8 111, .int .u8 99, .int .u8 97, .int .u8 98, .int .u8 10] 5 (6, 7)))
  have Z2' := hid (((Z2.out.alloc (.cells #[.slice ar2 0 cr2, .slice ap2 0 cp2] 25)).alloc (.cells #[.int .i64 1, .int .i64 2] 35)).alloc (.cells #[.int .u8 118, .int .u8 111, .int .u8 99, .int .u8 97, .int .u8 98, .int .u8 10] 5 (6, 7)))
  have Y2 := hid ((Bx2.new (w2.alloc (.cells #[.slice ar2 0 cr2, .slice ap2 0 cp2] 25)) 35 (.int .i64 1) (.int .i64 2)).alloc (.cells #[.int .u8 118, .int .u8 111, .int .u8 99, .int .u8 97, .int .u8 98, .int .u8 10] 5 (6, 7)))
  rw [World.size_alloc] at Y2
  have C2 := hid (((B2.out.alloc s2 (.cells #[.slice ar2 0 cr2, .slice ap2 0 cp2] 25)).alloc (by simp; omega) (.cells #[.int .i64 1, .int .i64 2] 35)).alloc (by simp; omega) (.cells #[.int .u8 118, .int .u8 111, .int .u8 99, .int .u8 97, .int .u8 98, .int .u8 10] 5 (6, 7)))
  clear r2 p2 hb2 f2 X1 Z1 C1 X2 Z2
  go_wp2_with fail
  refine (mRead_calls _ 6 6 (bytesF sTwo) _ (by omega) (Sl.constM sTwo 6 _ _ _ _ (by simp) (by decide) cells_two) (by rw [H2.out, lns_two]; decide)).mono ?_
  rintro e w3 ⟨⟨rs3, ps3, ar3, nr3, cr3, ap3, np3, cp3, l3, e3, rfl, r3, p3, f3⟩, hb3⟩
  rw [H2.out, lns_two] at f3
  obtain ⟨rfl, rfl, rfl, rfl⟩ := f3.one file_two
  have X3 := hid (((X2'.out.below hb3 X2'.out.lt).alloc (.cells #[.slice ar3 nr3 cr3, .slice ap3 np3 cp3] 25)).alloc (.cells #[.int .i64 2, .int .i64 2] 35))
  have Z3 := hid (((Z2'.out.below hb3 Z2'.out.lt).alloc (.cells #[.slice ar3 nr3 cr3, .slice ap3 np3 cp3] 25)).alloc (.cells #[.int .i64 2, .int .i64 2] 35))
  have Y3 := hid (((Y2.out.below hb3 Y2.out.lt).alloc (.cells #[.slice ar3 nr3 cr3, .slice ap3 np3 cp3] 25)).alloc (.cells #[.int .i64 2, .int .i64 2] 35))
  have V3 := hid (Bx2.new (w3.alloc (.cells #[.slice ar3 nr3 cr3, .slice ap3 np3 cp3] 25)) 35 (.int .i64 2) (.int .i64 2))
  rw [World.size_alloc] at V3
  have B3 := hid (C2.out.trans (hb3.mono C2.out.size))
  have s3 := B3.out.size
  have C3 := hid ((B3.out.alloc s3 (.cells #[.slice ar3 nr3 cr3, .slice ap3 np3 cp3] 25)).alloc (by simp; omega) (.cells #[.int .i64 2, .int .i64 2] 35))
  have c0 := X3.out.cell0
  have c1 := X3.out.cell1
  have c2 := Z3.out.cell0
  have c3 := Z3.out.cell1
  have c4 := Y3.out.cell0
  have c5 := Y3.out.cell1
  have c6 := V3.out.cell0
  have c7 := V3.out.cell1
  clear r3 p3 hb3 f3 kc kc2
  go_wp2_with fail
  go_ret
  exact ⟨rfl, C3.out⟩
end Go.Proofs.YtecbmonbeogdjaaDoor
