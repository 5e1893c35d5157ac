/-
  The program's endings: begins, open, mayEnd, and a reader's ending.
-/
import Derived.Test.YtiheagkgpbkkfaaDoorScW2
import Derived.Test.YtiheagkgpbkkfaaDoorLotW
namespace Go.Proofs.YtiheagkgpbkkfaaDoor
open Go.RowKit
set_option linter.unusedVariables false
/-- The package's endings lie as its initialiser lays them. -/
def Ends (w : World) : Prop := ∀ j, j < 7 → w.cell? ⟨0, j, none⟩ = some (.string (endS j))
theorem Ends.below {w w' : World} {n : Nat} (h : Ends w) (hb : Below n w w') (hn : w.heap.size ≤ n) : Ends w' := fun j hj => by
  have h0 := h j hj
  have := World.block_lt_of_cell? _ _ h0
  rw [hb.cell (p := ⟨0, j, none⟩) (by simp only at this ⊢; omega)]
  exact h0
section
variable {D : Dt} {X : Nat → Prop} {w : World} {k : Nat}
/-- It says whether a proposition holds, and only reads. -/
def SaysR (p : Prop) (w : World) (e : Ending) (w' : World) : Prop := (∃ t : Bool, e = .returned (.bool t) ∧ (t = true ↔ p)) ∧ w' = w
set_option maxRecDepth 100000 in
set_option maxHeartbeats 1600000 in
theorem beginsg_calls {s : ByteArray} {l m c : Nat} {g : Nat → Int} {a : Option Addr} {f : Nat → Int} (hS : St s l g) (hB : Sl w a m c f) (hm : m ≤ l) (hl : l ≤ 10) (cap : Bool) :
    Calls Tryd.prog 68 #[.string s, .slice a m c, .bool cap] w fun e w' => SaysR (∀ i, i < m → Sc.lower cap (f i) = g i) w e w' := by
  obtain ⟨hsz, hget, hz⟩ := hS
  have HB := hid hB
  clear hB
  go_enter Tryd.func68, Tryd.ntmps68
  go_wp2_with fail
  go_loopg [11] m (fun r jv wr => ∃ j : Nat, r = m - j ∧ jv = .int .i64 (j : Int) ∧ j ≤ m ∧ Hid (∀ i, i < j → Sc.lower cap (f i) = g i) ∧ wr = w)
  case atStart => exact ⟨0, rfl, rfl, by omega, hid (fun i hi => by omega), rfl⟩
  case round =>
    obtain ⟨j, rfl, rfl, hj, HT, rfl⟩ := hrel
    have j0 : (0 : Int) ≤ j := by omega
    have e1 : IntKind.i64.wrap (j : Int) = j := i64_in (by omega) (by omega)
    have e2 : IntKind.i64.wrap ((j : Int) + 1) = j + 1 := i64_in (by omega) (by omega)
    by_cases hlt : j < m
    · obtain ⟨b, off, rfl, hbl, hc⟩ := HB.out.at' (by omega)
      have p0 := hc j hlt
      have hbd := HB.out.bd j
      have k1 : (j : Int) < m := by omega
      have k2 : (j : Int) < s.size := by omega
      have hzk := hz j
      have HN := hid (show Sc.lower cap (f j) = g j → ∀ i, i < j + 1 → Sc.lower cap (f i) = g i from fun h i hi => by
        rcases Nat.lt_succ_iff_lt_or_eq.1 hi with h1 | rfl
        · exact HT.out i h1
        · exact h)
      have HX := hid (show ¬ Sc.lower cap (f j) = g j → ¬ ∀ i, i < m → Sc.lower cap (f i) = g i from fun h ht => h (ht j hlt))
      obtain ⟨y, hy⟩ : ∃ y, f j = y := ⟨_, rfl⟩
      have HL := hid (show Sc.lower cap (f j) = if cap = true ∧ 65 ≤ y ∧ y ≤ 90 then y + 32 else y by unfold Sc.lower; rw [hy])
      rw [hy] at p0 hbd
      clear hc hy
      cases cap with
      | false =>
        by_cases hyx : y = g j
        · have HT2 := hid (HN.out (by rw [HL.out, if_neg (fun e => by cases e.1)]; exact hyx))
          have t0 : (y != g j) = false := by simp [hyx]
          clear HN HX HL
          go_wp2_with fail
          go_roundg (m - (j + 1))
          case measure => omega
          case rel => exact ⟨j + 1, rfl, by go_num, by omega, HT2, rfl⟩
        · have HF := hid (HX.out (by rw [HL.out, if_neg (fun e => by cases e.1)]; exact hyx))
          have t0 : (y != g j) = true := by simp [hyx]
          clear HN HX HL
          go_wp2_with fail
          go_ret
          exact ⟨⟨_, rfl, ⟨fun e => (by cases e), fun e => absurd e HF.out⟩⟩, rfl⟩
      | true =>
        by_cases h65 : 65 ≤ y
        · by_cases h90 : y ≤ 90
          · have e5 : IntKind.u8.wrap (y + 32) = y + 32 := by rw [IntKind.wrap_u8]; omega
            by_cases hyx : y + 32 = g j
            · have HT2 := hid (HN.out (by rw [HL.out, if_pos ⟨rfl, h65, h90⟩]; exact hyx))
              have t0 : (y + 32 != g j) = false := by simp [hyx]
              clear HN HX HL
              go_wp2_with fail
              go_roundg (m - (j + 1))
              case measure => omega
              case rel => exact ⟨j + 1, rfl, by go_num, by omega, HT2, rfl⟩
            · have HF := hid (HX.out (by rw [HL.out, if_pos ⟨rfl, h65, h90⟩]; exact hyx))
              have t0 : (y + 32 != g j) = true := by simp [hyx]
              clear HN HX HL
              go_wp2_with fail
              go_ret
              exact ⟨⟨_, rfl, ⟨fun e => (by cases e), fun e => absurd e HF.out⟩⟩, rfl⟩
          · by_cases hyx : y = g j
            · have HT2 := hid (HN.out (by rw [HL.out, if_neg (fun e => h90 e.2.2)]; exact hyx))
              have t0 : (y != g j) = false := by simp [hyx]
              clear HN HX HL
              go_wp2_with fail
              go_roundg (m - (j + 1))
              case measure => omega
              case rel => exact ⟨j + 1, rfl, by go_num, by omega, HT2, rfl⟩
            · have HF := hid (HX.out (by rw [HL.out, if_neg (fun e => h90 e.2.2)]; exact hyx))
              have t0 : (y != g j) = true := by simp [hyx]
              clear HN HX HL
              go_wp2_with fail
              go_ret
              exact ⟨⟨_, rfl, ⟨fun e => (by cases e), fun e => absurd e HF.out⟩⟩, rfl⟩
        · by_cases hyx : y = g j
          · have HT2 := hid (HN.out (by rw [HL.out, if_neg (fun e => h65 e.2.1)]; exact hyx))
            have t0 : (y != g j) = false := by simp [hyx]
            clear HN HX HL
            go_wp2_with fail
            go_roundg (m - (j + 1))
            case measure => omega
            case rel => exact ⟨j + 1, rfl, by go_num, by omega, HT2, rfl⟩
          · have HF := hid (HX.out (by rw [HL.out, if_neg (fun e => h65 e.2.1)]; exact hyx))
            have t0 : (y != g j) = true := by simp [hyx]
            clear HN HX HL
            go_wp2_with fail
            go_ret
            exact ⟨⟨_, rfl, ⟨fun e => (by cases e), fun e => absurd e HF.out⟩⟩, rfl⟩
    · obtain rfl : j = m := by omega
      have k1 : ¬ (j : Int) < j := by omega
      have HE := hid (show ∀ i, i < j → Sc.lower cap (f i) = g i from HT.out)
      clear HT
      go_wp2_with fail
      go_ret
      exact ⟨⟨_, rfl, ⟨fun _ => HE.out, fun _ => rfl⟩⟩, rfl⟩
theorem begins_calls {s : ByteArray} {l m c : Nat} {L : List Int} {a : Option Addr} {f : Nat → Int} (hS : St s l (fun i => L.getD i 0)) (hB : Sl w a m c f) (hm : m ≤ l) (hl : l ≤ 10) (cap : Bool) :
    Calls Tryd.prog 68 #[.string s, .slice a m c, .bool cap] w fun e w' => SaysR (Sc.BT cap f m L) w e w' := beginsg_calls hS hB hm hl cap
theorem idx_end (j : Nat) (hj : j < 7) (w : World) : (Instr.index 95 (.agg #[.string (endS 0), .string (endS 1), .string (endS 2), .string (endS 3), .string (endS 4), .string (endS 5), .string (endS 6)]) (.int .i64 (j : Int))).run Tryd.prog w = .ok (.string (endS j)) w := by
  have h : j = 0 ∨ j = 1 ∨ j = 2 ∨ j = 3 ∨ j = 4 ∨ j = 5 ∨ j = 6 := by omega
  rcases h with rfl | rfl | rfl | rfl | rfl | rfl | rfl <;> rfl
theorem end_two (j : Nat) : 2 ≤ (endL j).length := by
  match j with
  | 0 => exact (by decide)
  | 1 => exact (by decide)
  | 2 => exact (by decide)
  | 3 => exact (by decide)
  | 4 => exact (by decide)
  | 5 => exact (by decide)
  | n + 6 => exact (show 2 ≤ ([39, 108, 108] : List Int).length by decide)
set_option maxRecDepth 100000 in
set_option maxHeartbeats 1600000 in
theorem open_calls {b off m c : Nat} {f : Nat → Int} (hB : Sl w (some ⟨b, off, none⟩) m c f) (hm : 0 < m) :
    Calls Tryd.prog 55 #[.slice (some ⟨b, off, none⟩) m c] w fun e w' => e = .returned (.int .i64 (Utf.rest f m : Nat)) ∧ w' = w := by
  have hle := hB.le
  have hmx := hB.mx
  unfold maxLen at hmx
  have HE := hid (Sc.rest_last f m)
  have e1 : IntKind.i64.wrap ((m : Int) - 3) = (m : Int) - 3 := i64_in (by omega) (by omega)
  by_cases h3 : 3 < m
  · have HB := hid (drop_byt hB (m - 3) (by omega))
    have e2 : (m : Int) - 3 = ((m - 3 : Nat) : Int) := by omega
    obtain ⟨d, hd⟩ : ∃ d, m - 3 = d := ⟨_, rfl⟩
    rw [hd] at HB HE e2
    rw [e2] at e1
    have q0 : (0 : Int) < d := by omega
    have q1 : (d : Int) ≤ m := by omega
    have q2 : (0 : Int) ≤ d := by omega
    have q3 : ¬ (c = d) := by omega
    clear hB hd
    go_enter Tryd.func55, Tryd.ntmps55
    go_wp2_with fail
    all_goals first
      | (exfalso; omega)
      | skip
    refine (rest_calls _ _ _ _ _ HB.out).mono ?_
    rintro e w ⟨rfl, rfl⟩
    go_wp2_with fail
    go_ret
    exact ⟨by rw [HE.out]; rfl, rfl⟩
  · have HB := hid hB
    have e3 : ¬ (0 : Int) < (m : Int) - 3 := by omega
    have e4 : m - 3 = 0 := by omega
    rw [e4, Utf.sh_zero, Nat.sub_zero] at HE
    clear hB
    go_enter Tryd.func55, Tryd.ntmps55
    go_wp2_with fail
    all_goals first
      | (exfalso; omega)
      | skip
    all_goals
      refine (rest_calls _ _ _ _ _ HB.out).mono ?_
      rintro e w ⟨rfl, rfl⟩
      go_wp2_with fail
      go_ret
      exact ⟨rfl, rfl⟩
/-- Are so many bytes just a first part of what a kind takes for an ending? -/
def MayK (kind : Nat) (f : Nat → Int) (m : Nat) : Prop := (kind = 2 ∨ kind = 3) ∧ Sc.May' (kind == 3) f m
set_option maxRecDepth 100000 in
set_option maxHeartbeats 1600000 in
theorem mayEnd_calls {a : Option Addr} {m c kind : Nat} {f : Nat → Int} (hB : Sl w a m c f) (hE : Ends w) (hk : kind ≤ 3) :
    Calls Tryd.prog 57 #[.int .i64 (kind : Int), .slice a m c] w fun e w' => SaysR (MayK kind f m) w e w' := by
  have d0 := hE 0 (by omega)
  have d1 := hE 1 (by omega)
  have d2 := hE 2 (by omega)
  have d3 := hE 3 (by omega)
  have d4 := hE 4 (by omega)
  have d5 := hE 5 (by omega)
  have d6 := hE 6 (by omega)
  have hle := hB.le
  have hmx := hB.mx
  unfold maxLen at hmx
  have HB := hid hB
  clear hB hE
  go_enter Tryd.func57, Tryd.ntmps57
  by_cases h23 : kind = 2 ∨ kind = 3
  · rcases h23 with rfl | rfl
    · go_wp2_with fail
      go_loopg [14] 7 (fun r jv wr => ∃ j : Nat, r = 7 - j ∧ jv = .int .i64 (j : Int) ∧ j ≤ 7 ∧ Hid (∀ i, i < j → ¬ (m < (endL i).length ∧ Sc.BT false f m (endL i))) ∧ wr = w)
      case atStart => exact ⟨0, rfl, rfl, by omega, hid (fun i hi => by omega), rfl⟩
      case round =>
        obtain ⟨j, rfl, rfl, hj, HT, rfl⟩ := hrel
        have j0 : (0 : Int) ≤ j := by omega
        have e2 : IntKind.i64.wrap ((j : Int) + 1) = j + 1 := i64_in (by omega) (by omega)
        by_cases hlt : j < 7
        · have k1 : (j : Int) < 7 := by omega
          have hix := idx_end j hlt wr
          have HSt := hid (end_st j)
          have hln := end_len j
          have HL := hid (end_len j)
          have HJ := hid hlt
          obtain ⟨S, hS⟩ : ∃ S, endS j = S := ⟨_, rfl⟩
          rw [hS] at hix HSt
          have hsz := HSt.out.size
          clear hS
          by_cases hml : m < (endL j).length
          · have t0 : (m : Int) < S.size := by omega
            clear hsz
            go_wp2_with fail
            refine (begins_calls (L := endL j) HSt.out HB.out (by omega) (by omega) false).mono ?_
            rintro e w2 ⟨⟨t, rfl, ht⟩, rfl⟩
            have HTT := hid ht
            clear ht
            cases t with
            | true =>
              have HF := hid (show MayK 2 f m from ⟨by decide, j, HJ.out, hml, HTT.out.1 rfl⟩)
              clear HT HTT
              go_wp2_with fail
              go_ret
              exact ⟨⟨_, rfl, ⟨fun _ => HF.out, fun _ => rfl⟩⟩, rfl⟩
            | false =>
              have HT2 := hid (show ∀ i, i < j + 1 → ¬ (m < (endL i).length ∧ Sc.BT false f m (endL i)) from fun i hi => by
                rcases Nat.lt_succ_iff_lt_or_eq.1 hi with h | rfl
                · exact HT.out i h
                · exact fun e => absurd (HTT.out.2 e.2) (by decide))
              clear HT HTT
              go_wp2_with fail
              go_roundg (7 - (j + 1))
              case measure => have := HJ.out; omega
              case rel => exact ⟨j + 1, rfl, by go_num, by have := HJ.out; omega, HT2, rfl⟩
          · have t0 : ¬ (m : Int) < S.size := by omega
            have HT2 := hid (show ∀ i, i < j + 1 → ¬ (m < (endL i).length ∧ Sc.BT false f m (endL i)) from fun i hi => by
              rcases Nat.lt_succ_iff_lt_or_eq.1 hi with h | rfl
              · exact HT.out i h
              · exact fun e => hml e.1)
            clear hsz HT
            go_wp2_with fail
            go_roundg (7 - (j + 1))
            case measure => have := HJ.out; omega
            case rel => exact ⟨j + 1, rfl, by go_num, by have := HJ.out; omega, HT2, rfl⟩
        · have k1 : ¬ (j : Int) < 7 := by omega
          have HF := hid (show ¬ MayK 2 f m from fun e => by
            obtain ⟨_, i, hi, h1, h2⟩ := e
            exact HT.out i (by omega) ⟨h1, h2⟩)
          clear HT
          go_wp2_with fail
          go_ret
          exact ⟨⟨_, rfl, ⟨fun e => (by cases e), fun e => absurd e HF.out⟩⟩, rfl⟩
    · go_wp2_with fail
      go_loopg [14] 7 (fun r jv wr => ∃ j : Nat, r = 7 - j ∧ jv = .int .i64 (j : Int) ∧ j ≤ 7 ∧ Hid (∀ i, i < j → ¬ (m < (endL i).length ∧ Sc.BT true f m (endL i))) ∧ wr = w)
      case atStart => exact ⟨0, rfl, rfl, by omega, hid (fun i hi => by omega), rfl⟩
      case round =>
        obtain ⟨j, rfl, rfl, hj, HT, rfl⟩ := hrel
        have j0 : (0 : Int) ≤ j := by omega
        have e2 : IntKind.i64.wrap ((j : Int) + 1) = j + 1 := i64_in (by omega) (by omega)
        by_cases hlt : j < 7
        · have k1 : (j : Int) < 7 := by omega
          have hix := idx_end j hlt wr
          have HSt := hid (end_st j)
          have hln := end_len j
          have HL := hid (end_len j)
          have HJ := hid hlt
          obtain ⟨S, hS⟩ : ∃ S, endS j = S := ⟨_, rfl⟩
          rw [hS] at hix HSt
          have hsz := HSt.out.size
          clear hS
          by_cases hml : m < (endL j).length
          · have t0 : (m : Int) < S.size := by omega
            clear hsz
            go_wp2_with fail
            refine (begins_calls (L := endL j) HSt.out HB.out (by omega) (by omega) true).mono ?_
            rintro e w2 ⟨⟨t, rfl, ht⟩, rfl⟩
            have HTT := hid ht
            clear ht
            cases t with
            | true =>
              have HF := hid (show MayK 3 f m from ⟨by decide, j, HJ.out, hml, HTT.out.1 rfl⟩)
              clear HT HTT
              go_wp2_with fail
              go_ret
              exact ⟨⟨_, rfl, ⟨fun _ => HF.out, fun _ => rfl⟩⟩, rfl⟩
            | false =>
              have HT2 := hid (show ∀ i, i < j + 1 → ¬ (m < (endL i).length ∧ Sc.BT true f m (endL i)) from fun i hi => by
                rcases Nat.lt_succ_iff_lt_or_eq.1 hi with h | rfl
                · exact HT.out i h
                · exact fun e => absurd (HTT.out.2 e.2) (by decide))
              clear HT HTT
              go_wp2_with fail
              go_roundg (7 - (j + 1))
              case measure => have := HJ.out; omega
              case rel => exact ⟨j + 1, rfl, by go_num, by have := HJ.out; omega, HT2, rfl⟩
          · have t0 : ¬ (m : Int) < S.size := by omega
            have HT2 := hid (show ∀ i, i < j + 1 → ¬ (m < (endL i).length ∧ Sc.BT true f m (endL i)) from fun i hi => by
              rcases Nat.lt_succ_iff_lt_or_eq.1 hi with h | rfl
              · exact HT.out i h
              · exact fun e => hml e.1)
            clear hsz HT
            go_wp2_with fail
            go_roundg (7 - (j + 1))
            case measure => have := HJ.out; omega
            case rel => exact ⟨j + 1, rfl, by go_num, by have := HJ.out; omega, HT2, rfl⟩
        · have k1 : ¬ (j : Int) < 7 := by omega
          have HF := hid (show ¬ MayK 3 f m from fun e => by
            obtain ⟨_, i, hi, h1, h2⟩ := e
            exact HT.out i (by omega) ⟨h1, h2⟩)
          clear HT
          go_wp2_with fail
          go_ret
          exact ⟨⟨_, rfl, ⟨fun e => (by cases e), fun e => absurd e HF.out⟩⟩, rfl⟩
  · have HF := hid (show ¬ MayK kind f m from fun e => h23 e.1)
    have t0 : ((kind : Int) != 2) = true := by simp; omega
    have t1 : ((kind : Int) != 3) = true := by simp; omega
    clear h23
    go_wp2_with fail
    go_ret
    exact ⟨⟨_, rfl, ⟨fun e => (by cases e), fun e => absurd e HF.out⟩⟩, rfl⟩
set_option maxRecDepth 100000 in
set_option maxHeartbeats 1600000 in
theorem rending_calls (h : Rd D X w k) (hE : Ends D.W) (cap : Bool) :
    Calls Tryd.prog 60 #[.pointer (some ⟨D.o, 0, none⟩), .bool cap] w fun e w' => e = .returned (.int .i64 (Sc.ending cap D.ps : Nat)) ∧ Gone D X w k (Sc.ending cap D.ps) w' := by
  have hE2 := hE.below h.old (Nat.le_refl _)
  have d0 := hE2 0 (by omega)
  have d1 := hE2 1 (by omega)
  have d2 := hE2 2 (by omega)
  have d3 := hE2 3 (by omega)
  have d4 := hE2 4 (by omega)
  have d5 := hE2 5 (by omega)
  have d6 := hE2 6 (by omega)
  have hs := h.small
  have hl := h.len
  have hz := hid (fun i => (h.byt.bd i).1)
  have HR := hid h
  clear h hE hE2
  go_enter Tryd.func60, Tryd.ntmps60
  go_wp2_with fail
  clear d0 d1 d2 d3 d4 d5 d6
  go_loopg [8] 7 (fun r jv wr => ∃ j : Nat, r = 7 - j ∧ jv = .int .i64 (j : Int) ∧ j ≤ 7 ∧ Hid (∀ i, i < j → ¬ ((endL i).length ≤ D.ps.length ∧ Sc.BT cap D.f (endL i).length (endL i))) ∧ Hid (∃ k1, k ≤ k1 ∧ Rd D X wr k1 ∧ Mut (fun b => ¬ X b) w wr))
  case atStart => exact ⟨0, rfl, rfl, by omega, hid (fun i hi => by omega), hid ⟨k, Nat.le_refl _, HR.out, Mut.refl _ _⟩⟩
  case round =>
    obtain ⟨j, rfl, rfl, hj, HT, HG⟩ := hrel
    have j0 : (0 : Int) ≤ j := by omega
    have e2 : IntKind.i64.wrap ((j : Int) + 1) = j + 1 := i64_in (by omega) (by omega)
    by_cases hlt : j < 7
    · have k1 : (j : Int) < 7 := by omega
      obtain ⟨kk, ha, R1, M1⟩ := HG.out
      have hix := idx_end j hlt wr
      have HSt := hid (end_st j)
      have hln := end_len j
      have hln2 := end_two j
      have HJ := hid hlt
      obtain ⟨S, hS⟩ : ∃ S, endS j = S := ⟨_, rfl⟩
      rw [hS] at hix HSt
      have hsz := HSt.out.size
      obtain ⟨n, hn⟩ : ∃ n, (endL j).length = n := ⟨_, rfl⟩
      have HN := hid hn
      rw [hn] at hsz hln hln2 HSt
      have e1 : IntKind.i64.wrap ((S.size : Int) - 1) = ((n - 1 : Nat) : Int) := by rw [hsz, i64_in (by omega) (by omega)]; omega
      have HC := hid (has_calls R1 (n - 1) (by omega))
      have HM := hid M1
      have HA := hid ha
      have HSZ := hid hsz
      obtain ⟨q, hq⟩ : ∃ q, n - 1 = q := ⟨_, rfl⟩
      rw [hq] at e1 HC
      clear hS hn R1 M1 ha HG hsz
      go_wp2_with fail
      refine HC.out.mono ?_
      rintro e w2 ⟨rfl, g2⟩
      obtain ⟨k2, a2, b2, R2, M2⟩ := g2
      have HR2 := hid R2
      have M3 := hid (HM.out.trans M2 (fun _ _ e => e))
      have HA2 := hid (Nat.le_trans HA.out a2)
      have HB2 := hid b2
      clear M2 a2 b2 HC HM HA
      by_cases hin : n ≤ D.ps.length
      · obtain ⟨y1, y2⟩ := Dt.has_yes (D := D) (i := q) (by omega)
        rw [y2] at HB2
        rw [y1]
        obtain ⟨a1, c1, a2, c2, h1, h2, h3, h4⟩ := R2.ex
        have x1 := h1.cell1
        have HBY := hid (R2.bytes.first n (by omega))
        have hbl := R2.bytes.le
        have z1 : (S.size : Int) ≤ D.bc := by rw [HSZ.out]; omega
        have z2 : (0 : Int) ≤ S.size := by omega
        clear R2 h1 h2 h3 h4 y1 y2
        have HS2 := HSZ.out
        go_wp2_with fail
        refine (begins_calls (L := endL j) HSt.out HBY.out (by omega) (by omega) cap).mono ?_
        rintro e w3 ⟨⟨t, rfl, ht⟩, rfl⟩
        have HTT := hid ht
        clear ht
        cases t with
        | true =>
          have HE := hid (Sc.ending_bytes (w := cap) (f := D.f) (n := D.bn) hz.out HJ.out (by rw [HN.out]; exact ⟨hin, HTT.out.1 rfl⟩) HT.out)
          have HG := hid (show Gone D X w k (Sc.ending cap D.ps) w3 from ⟨k2, HA2.out, by have := HE.out; have e : Sc.ending cap D.ps = (endL j).length := this; rw [e, HN.out]; have := HB2.out; omega, HR2.out, M3.out⟩)
          clear HT HTT
          go_wp2_with fail
          go_ret
          exact ⟨ret_int (by rw [show Sc.ending cap D.ps = (endL j).length from HE.out, HN.out]), HG.out⟩
        | false =>
          have HT2 := hid (show ∀ i, i < j + 1 → ¬ ((endL i).length ≤ D.ps.length ∧ Sc.BT cap D.f (endL i).length (endL i)) from fun i hi => by
            rcases Nat.lt_succ_iff_lt_or_eq.1 hi with h | rfl
            · exact HT.out i h
            · exact fun e => absurd (HTT.out.2 (by rw [← HN.out]; exact e.2)) (by decide))
          clear HT HTT
          go_wp2_with fail
          go_roundg (7 - (j + 1))
          case measure => have := HJ.out; omega
          case rel => exact ⟨j + 1, rfl, by go_num, by have := HJ.out; omega, HT2, hid ⟨k2, HA2.out, HR2.out, M3.out⟩⟩
      · obtain ⟨y1, y2⟩ := Dt.has_no (D := D) (i := q) (by omega)
        rw [y1]
        have HT2 := hid (show ∀ i, i < j + 1 → ¬ ((endL i).length ≤ D.ps.length ∧ Sc.BT cap D.f (endL i).length (endL i)) from fun i hi => by
          rcases Nat.lt_succ_iff_lt_or_eq.1 hi with h | rfl
          · exact HT.out i h
          · exact fun e => hin (by rw [← HN.out]; exact e.1))
        clear HT R2 y1 y2
        go_wp2_with fail
        go_roundg (7 - (j + 1))
        case measure => have := HJ.out; omega
        case rel => exact ⟨j + 1, rfl, by go_num, by have := HJ.out; omega, HT2, hid ⟨k2, HA2.out, HR2.out, M3.out⟩⟩
    · have k1 : ¬ (j : Int) < 7 := by omega
      obtain ⟨kk, ha, R1, M1⟩ := HG.out
      have HE := hid (Sc.ending_nobytes (w := cap) (f := D.f) (n := D.bn) hz.out (fun i hi => HT.out i (by omega)))
      have HGG := hid (show Gone D X w k (Sc.ending cap D.ps) wr from ⟨kk, ha, by rw [show Sc.ending cap D.ps = 0 from HE.out]; omega, R1, M1⟩)
      clear HT R1 M1 ha HG
      go_wp2_with fail
      go_ret
      exact ⟨ret_int (by rw [show Sc.ending cap D.ps = 0 from HE.out]; rfl), HGG.out⟩
end
end Go.Proofs.YtiheagkgpbkkfaaDoor
