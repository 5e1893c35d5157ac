/-
  The walk of the law Base64Place.
-/
import Derived.Test.YtanccppmfgghgaaB6F
namespace Go.Proofs.Ytanccppmfgghgaa
open Go.RowKit
set_option linter.unusedVariables false

/-- The five ends. -/
def endsS (k : Nat) : ByteArray := if k = 0 then ⟨#[65]⟩ else if k = 1 then ⟨#[65, 65]⟩ else if k = 2 then ⟨#[65, 65, 65]⟩ else if k = 3 then ⟨#[61]⟩ else ⟨#[61, 61]⟩
def endsN (k : Nat) : Nat := if k = 0 then 1 else if k = 1 then 2 else if k = 2 then 3 else if k = 3 then 1 else 2
theorem ends_size (k : Nat) : (endsS k).size = endsN k := by
  unfold endsS endsN
  repeat' split
  all_goals rfl
theorem ends_le (k : Nat) : endsN k ≤ 3 := by
  unfold endsN
  repeat' split
  all_goals omega
theorem ends_good {f : Nat → Int} {n : Nat} (h : B6.Bad f n n) (hall : ∀ k, k < 5 → ¬ B6.Good (cat f n (bytesF (endsS k))) (n + endsN k)) : False := by
  rcases B6.bad_ends h with q | q | q | q
  · exact hall 0 (by omega) (q _ rfl)
  · exact hall 1 (by omega) (q _ rfl rfl)
  · exact hall 2 (by omega) (q _ rfl rfl rfl)
  · exact hall 3 (by omega) (q _ rfl)

set_option maxRecDepth 100000 in
set_option maxHeartbeats 3200000 in
theorem base64Place_calls (s t : ByteArray) (w : World) :
    Calls Try.prog 7 #[.string s, .string t] w fun e w' => e = .returned (.bool true) ∧ Below w.heap.size w w' := by
  obtain ⟨n, hn⟩ : ∃ n, s.size = n := ⟨_, rfl⟩
  obtain ⟨m, hm⟩ : ∃ m, t.size = m := ⟨_, rfl⟩
  have HS := hid (St.any s)
  have HT := hid (St.any t)
  rw [hn] at HS
  rw [hm] at HT
  by_cases hbig : 400 < n
  · have hb' : (400 : Int) < n := by omega
    go_enter Try.func7, Try.ntmps7
    go_wp2_with fail
    refine (fixed03_calls _).mono ?_
    rintro e w' ⟨rfl, hb⟩
    go_wp2_with fail
    go_ret
    exact ⟨rfl, hb⟩
  have hb' : ¬ (400 : Int) < n := by omega
  by_cases hbig2 : 400 < m
  · have hb2' : (400 : Int) < m := by omega
    go_enter Try.func7, Try.ntmps7
    go_wp2_with fail
    refine (fixed03_calls _).mono ?_
    rintro e w' ⟨rfl, hb⟩
    go_wp2_with fail
    go_ret
    exact ⟨rfl, hb⟩
  have hb2' : ¬ (400 : Int) < m := by omega
  go_enter Try.func7, Try.ntmps7
  go_wp2_with fail
  refine (b6decode_calls s n (bytesF s) _ (by omega) HS.out).mono ?_
  rintro e w1 ⟨ho, hb1⟩
  have B1 := hid hb1
  clear hb1
  rcases ho with ⟨hg, a, c, rfl, hsl⟩ | ⟨p, hp, rfl⟩
  · clear hg hsl
    go_wp2_with fail
    refine (fixed03_calls _).mono ?_
    rintro e w2 ⟨rfl, hb2⟩
    have B2 := hid (B1.out.trans (hb2.mono B1.out.size))
    clear hb2
    go_wp2_with fail
    go_ret
    exact ⟨rfl, B2.out⟩
  have hpn := B6.bad_le hp
  have hp0 : ¬ (p : Int) < 0 := by omega
  have hp1 : ¬ (n : Int) < p := by omega
  have HP := hid hp
  clear hp
  by_cases hlt : p < n
  · have hlt' : (p : Int) < n := by omega
    have hw1 : IntKind.i64.wrap ((p : Int) + 1) = (p : Int) + 1 := i64_in (by omega) (by omega)
    have hq0 : (0 : Int) ≤ (p : Int) + 1 := by omega
    have hq1 : (p : Int) + 1 ≤ n := by omega
    have hX := (HS.out.extract 0 (p + 1) (by omega) (by omega)).append HT.out
    obtain ⟨X, hXX⟩ : ∃ X, s.extract 0 (p + 1) = X := ⟨_, rfl⟩
    have hXs : X.size = p + 1 := by rw [← hXX]; exact (HS.out.extract 0 (p + 1) (by omega) (by omega)).size
    have hcat : ¬ 9223372036854775807 < X.size + t.size := by rw [hXs, hm]; omega
    rw [hXX] at hX
    have hBad : B6.Bad (cat (fun k => bytesF s (0 + k)) (p + 1 - 0) (bytesF t)) (p + 1 - 0 + m) p := B6.bad_stays HP.out hlt (by omega) (fun i hi => by rw [cat_lt (by omega), Nat.zero_add])
    have HX := hid hX
    have HB := hid hBad
    clear hX hBad
    go_wp2_with fail
    refine (b6decode_calls _ _ _ _ (by omega) HX.out).mono ?_
    rintro e w2 ⟨ho, hb2⟩
    have B2 := hid (B1.out.trans (hb2.mono B1.out.size))
    obtain rfl : e = .returned (.tuple #[.slice none 0 0, .int .i64 p, .bool false]) := by
      rcases ho with ⟨hg, _⟩ | ⟨q, hq, rfl⟩
      · exact absurd hg (B6.bad_not_good HB.out)
      · rw [B6.bad_one hq HB.out]
    clear ho hb2
    go_wp2_with fail
    refine (fixed03_calls _).mono ?_
    rintro e w3 ⟨rfl, hb3⟩
    have B3 := hid (B2.out.trans (hb3.mono B2.out.size))
    clear hb3
    go_wp2_with fail
    go_ret
    exact ⟨rfl, B3.out⟩
  obtain rfl : p = n := by omega
  have hlt' : ¬ (p : Int) < p := by omega
  have sz1 := B1.out.size
  go_wp2_with fail
  go_loopg [72] 5 (fun r i wr => ∃ k : Nat, k ≤ 5 ∧ r = 5 - k ∧ i = .int .i64 k ∧ Hid (∀ j, j < 5 → wr.cell? ⟨w1.heap.size, j, none⟩ = some (.string (endsS j))) ∧ w1.heap.size < wr.heap.size ∧ Hid (Below w.heap.size w wr) ∧ Hid (∀ j, j < k → ¬ B6.Good (cat (bytesF s) p (bytesF (endsS j))) (p + endsN j)))
  case atStart =>
    refine ⟨0, by omega, rfl, rfl, hid (fun j hj => ?_), by simp, hid (B1.out.alloc sz1 _), hid (fun j hj => absurd hj (by omega))⟩
    obtain rfl | rfl | rfl | rfl | rfl : j = 0 ∨ j = 1 ∨ j = 2 ∨ j = 3 ∨ j = 4 := by omega
    all_goals (simp; rfl)
  case round =>
    obtain ⟨k, hk, rfl, rfl, HC, hsz, HB, HG⟩ := hrel
    by_cases hk5 : k < 5
    · have hk5' : (k : Int) < 5 := by omega
      have hk0 : (0 : Int) ≤ k := by omega
      have q := HC.out k hk5
      obtain ⟨E, hE⟩ : ∃ E, endsS k = E := ⟨_, rfl⟩
      have hEs : E.size = endsN k := by rw [← hE]; exact ends_size k
      have hle := ends_le k
      have hcat : ¬ 9223372036854775807 < s.size + E.size := by omega
      have hX := HS.out.append (St.any E)
      rw [hEs] at hX
      have HX := hid hX
      have HE := hid hE
      rw [hE] at q
      clear hX hE
      go_wp2_with fail
      refine (b6decode_calls _ _ _ _ (by omega) HX.out).mono ?_
      rintro e w2 ⟨ho, hb2⟩
      have B2 := hid (HB.out.trans (hb2.mono HB.out.size))
      have HC2 := hid (show ∀ j, j < 5 → w2.cell? ⟨w1.heap.size, j, none⟩ = some (.string (endsS j)) from fun j hj => by rw [hb2.cell (p := ⟨w1.heap.size, j, none⟩) hsz]; exact HC.out j hj)
      have hsz2 : w1.heap.size < w2.heap.size := Nat.lt_of_lt_of_le hsz hb2.size
      clear hb2
      rcases ho with ⟨hg, a, c, rfl, hsl⟩ | ⟨q, hq, rfl⟩
      · clear hg hsl
        go_wp2_with fail
        refine (fixed03_calls _).mono ?_
        rintro e w3 ⟨rfl, hb3⟩
        have B3 := hid (B2.out.trans (hb3.mono B2.out.size))
        clear hb3
        go_wp2_with fail
        go_ret
        exact ⟨rfl, B3.out⟩
      · have HQ := hid (B6.bad_not_good hq)
        clear hq
        go_wp2_with fail
        go_roundg (5 - (k + 1))
        case measure => omega
        case rel =>
          refine ⟨k + 1, by omega, rfl, by go_num, HC2, hsz2, B2, hid (fun j hj => ?_)⟩
          by_cases e : j = k
          · subst e; rw [HE.out]; exact HQ.out
          · exact HG.out j (by omega)
    · obtain rfl : k = 5 := by omega
      exact (ends_good HP.out HG.out).elim
end Go.Proofs.Ytanccppmfgghgaa
