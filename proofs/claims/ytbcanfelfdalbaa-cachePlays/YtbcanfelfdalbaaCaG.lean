/-
  Walks of a cache's New, Room, Len, Counts, Keys and Get.
-/
import Derived.Test.YtbcanfelfdalbaaCaN
import Derived.Test.YtbcanfelfdalbaaCaZ
import Derived.Test.YtbcanfelfdalbaaClnI
import Derived.Test.YtbcanfelfdalbaaLotT
import Derived.Laws.OwnMore
import Derived.Deep.LoopGhost
namespace Go.Proofs.Ytbcanfelfdalbaa
open Go.RowKit Go.Maps Ca
set_option linter.unusedVariables false
theorem Try.infoCe : (Try.prog.info? 57).map (fun i => (i.zero, i.size, i.bytes)) = some (some (.agg #[.string ⟨#[]⟩, .slice none 0 0, .int .i64 0, .int .i64 0]), 4, 56) := by kernel_rfl
theorem Try.infoSt : (Try.prog.info? 9).map (fun i => (i.zero, i.size, i.bytes)) = some (some (.string ⟨#[]⟩), 1, 16) := by kernel_rfl
theorem cnew_no (w : World) (room : Int) (hr : room < 0 ∨ 1048576 < room) : Calls Try.prog 7 #[.int .i64 room] w fun e w' => e = .returned (.pointer none) ∧ Below w.heap.size w w' := by
  by_cases h1 : room < 0
  · go_enter Try.func7, Try.ntmps7
    go_wp2_with fail
    go_ret
    exact ⟨rfl, Below.refl _ _⟩
  · have h2 : 1048576 < room := by omega
    go_enter Try.func7, Try.ntmps7
    go_wp2_with fail
    go_ret
    exact ⟨rfl, Below.refl _ _⟩
def e0 : Nat → En := fun _ => ⟨⟨#[]⟩, (none, 0, 0), [], 0, 0⟩
set_option maxRecDepth 100000 in
set_option maxHeartbeats 1600000 in
theorem cnew_z (w : World) (room : Nat) (hr : room ≤ 1048576) : Calls Try.prog 7 #[.int .i64 (room : Int)] w fun r w' => r = .returned (.pointer (some ⟨w.heap.size + 2, 0, none⟩)) ∧ Cz w' (w.heap.size + 2) w.heap.size (w.heap.size + 1) 1 1 room 0 0 e0 [] (fun k => w.heap.size ≤ k ∧ k < w.heap.size + 3) ∧ Below w.heap.size w w' := by
  obtain ⟨i0, hi, hz0, hz1, hz2⟩ := info_parts Try.infoCe
  have hmm := @run_makeMap Try.prog
  have b1 := (Below.refl w.heap.size w).alloc (Nat.le_refl _) (.map #[] 0)
  have s1 : (w.alloc (.map #[] 0)).heap.size = w.heap.size + 1 := by simp
  obtain ⟨w1, hw1⟩ : ∃ W, w.alloc (.map #[] 0) = W := ⟨_, rfl⟩
  have mp0 := Mp.new w
  rw [hw1] at b1 s1 mp0
  have b2 := (Below.refl w1.heap.size w1).alloc (Nat.le_refl _) (.cells #[.string ⟨#[]⟩, .slice none 0 0, .int .i64 0, .int .i64 0] 57)
  have hmk : (Instr.makeSlice 51 (.int .i64 1) (.int .i64 1)).run Try.prog w1 = .ok (.slice (some ⟨w1.heap.size, 0, none⟩) 1 1) (w1.alloc (.cells #[.string ⟨#[]⟩, .slice none 0 0, .int .i64 0, .int .i64 0] 57)) := by
    have := run_make (P := Try.prog) w1 51 57 i0 _ Try.underlying51 hi hz0 .i64 .i64 1 1 (by omega) (Int.le_refl _) (by rw [hz2]; omega) (by omega)
    have mc : madeCells (Value.agg #[.string ⟨#[]⟩, .slice none 0 0, .int .i64 0, .int .i64 0]).cells 4 = #[.string ⟨#[]⟩, .slice none 0 0, .int .i64 0, .int .i64 0] := by kernel_rfl
    rw [this, hz1, show (Int.toNat 1) * 4 = 4 from rfl, mc]
    rfl
  have ro := World.ownsRow_lit (base := 0) (size := 4) (e := 57) w1 #[.string ⟨#[]⟩, .slice none 0 0, .int .i64 0, .int .i64 0] 1 (Nat.zero_le _) (by decide) rfl
  have s2 : (w1.alloc (.cells #[.string ⟨#[]⟩, .slice none 0 0, .int .i64 0, .int .i64 0] 57)).heap.size = w.heap.size + 2 := by simp [s1]
  obtain ⟨w2, hw2⟩ : ∃ W, w1.alloc (.cells #[.string ⟨#[]⟩, .slice none 0 0, .int .i64 0, .int .i64 0] 57) = W := ⟨_, rfl⟩
  rw [hw2] at b2 ro s2
  rw [s1] at ro
  rw [s1] at hmk
  have b3 := (Below.refl w2.heap.size w2).alloc (Nat.le_refl _) (.cells #[.int .i64 (room : Int), .map (some w.heap.size), .slice (some ⟨w.heap.size + 1, 0, none⟩) 1 1, .int .i64 0, .int .i64 0] 53)
  have s3 : (w2.alloc (.cells #[.int .i64 (room : Int), .map (some w.heap.size), .slice (some ⟨w.heap.size + 1, 0, none⟩) 1 1, .int .i64 0, .int .i64 0] 53)).heap.size = w.heap.size + 3 := by simp [s2]
  have hn := heap_alloc_new w2 (.cells #[.int .i64 (room : Int), .map (some w.heap.size), .slice (some ⟨w.heap.size + 1, 0, none⟩) 1 1, .int .i64 0, .int .i64 0] 53)
  obtain ⟨w3, hw3⟩ : ∃ W, w2.alloc (.cells #[.int .i64 (room : Int), .map (some w.heap.size), .slice (some ⟨w.heap.size + 1, 0, none⟩) 1 1, .int .i64 0, .int .i64 0] 53) = W := ⟨_, rfl⟩
  rw [hw3] at b3 s3 hn
  rw [s2] at hn
  have FIN := hid (show Cz w3 (w.heap.size + 2) w.heap.size (w.heap.size + 1) 1 1 room 0 0 e0 [] (fun k => w.heap.size ≤ k ∧ k < w.heap.size + 3) ∧ Below w.heap.size w w3 from
    ⟨⟨⟨hn, own_below ro b3, by omega⟩, rfl, by simp, (fun i hi => by cases hi), ⟨rfl, rfl⟩, List.Pairwise.nil, (fun i hi => by cases hi), (mp0.below b2).below b3, ⟨by omega, by omega, by omega, by omega, by omega⟩, fun k hk => by omega⟩, (b1.trans (b2.mono (by omega))).trans (b3.mono (by omega))⟩)
  clear b1 b2 b3 ro mp0 hn s3
  have k1 : ¬ (room : Int) < 0 := by omega
  have k2 : ¬ (1048576 : Int) < room := by omega
  go_enter Try.func7, Try.ntmps7
  go_wp2_with fail
  go_ret
  exact ⟨rfl, FIN.out⟩
theorem Mut.weak {S S' : Nat → Prop} {w w' : World} (h : Mut S w w') (hS : ∀ k, S k → S' k) : Mut S' w w' := ⟨h.os, h.tape, h.output, h.size, fun k hk hn => h.block k hk (fun e => hn (hS k e))⟩
section
variable {w w' : World} {B M g cap n room h m : Nat} {e : Nat → En} {p : List Nat} {S : Nat → Prop}
theorem croom_z (Z : Cz w B M g cap n room h m e p S) : Calls Try.prog 10 #[.pointer (some ⟨B, 0, none⟩)] w fun r w' => r = .returned (.int .i64 (room : Int)) ∧ w' = w := by
  obtain ⟨c0, -, -, -, -⟩ := Z.cr.cells
  clear Z
  go_enter Try.func10, Try.ntmps10
  go_wp2_with fail
  go_ret
  exact ⟨rfl, rfl⟩
theorem clen_z (Z : Cz w B M g cap n room h m e p S) : Calls Try.prog 19 #[.pointer (some ⟨B, 0, none⟩)] w fun r w' => r = .returned (.int .i64 (p.length : Int)) ∧ w' = w := by
  obtain ⟨-, c1, -, -, -⟩ := Z.cr.cells
  have hlen : (Builtin.len_ #[50] 3 #[.map (some M)]).run Try.prog w = .ok (.int .i64 (p.length : Int)) w := by
    have := Z.mp.len 3
    rwa [show (pk e p).length = p.length by simp [pk]] at this
  clear Z
  go_enter Try.func19, Try.ntmps19
  go_wp2_with fail
  go_ret
  exact ⟨rfl, rfl⟩
theorem ccounts_z (Z : Cz w B M g cap n room h m e p S) : Calls Try.prog 18 #[.pointer (some ⟨B, 0, none⟩)] w fun r w' => r = .returned (.tuple #[.int .i64 (h : Int), .int .i64 (m : Int)]) ∧ Below w.heap.size w w' := by
  obtain ⟨-, -, -, c3, c4⟩ := Z.cr.cells
  clear Z
  go_enter Try.func18, Try.ntmps18
  go_wp2_with fail
  go_quiet (fail)
  go_wp2_with fail
  refine bodyPost_ret (v := .tuple #[.int .i64 (h : Int), .int .i64 (m : Int)]) (by simp [results, Try.results18, go_sem]) rfl ?_
  exact ⟨rfl, below_drewN (Below.refl _ _) nq⟩
section
variable {a : Nat} {k : ByteArray}
theorem Cz.hit (Z : Cz w B M g cap n room h m e p S) : Cz (w.setCell ⟨B, 3, none⟩ (.int .i64 ((h : Int) + 1))) B M g cap n room (h + 1) m e p S ∧ Mut (fun k => k = B ∨ k = M ∨ k = g) w (w.setCell ⟨B, 3, none⟩ (.int .i64 ((h : Int) + 1))) := by
  have m1 := Mut.set w B 3 (.int .i64 ((h : Int) + 1)) (S := fun k => k = B) rfl
  exact ⟨⟨Z.cr.hit, Z.len, Z.nd, Z.lt, Z.ci, Z.kd, fun i hi => (Z.hd i hi).mut m1 (fun k hk => .inl hk), Z.mp.mut m1 (fun e => Z.own.2.2.2.1 e.symm), Z.own, fun k hk => Nat.lt_of_lt_of_le (Z.sz k hk) m1.size⟩, Mut.set w B 3 _ (.inl rfl)⟩
theorem Cz.miss (Z : Cz w B M g cap n room h m e p S) : Cz (w.setCell ⟨B, 4, none⟩ (.int .i64 ((m : Int) + 1))) B M g cap n room h (m + 1) e p S ∧ Mut (fun k => k = B ∨ k = M ∨ k = g) w (w.setCell ⟨B, 4, none⟩ (.int .i64 ((m : Int) + 1))) := by
  have m1 := Mut.set w B 4 (.int .i64 ((m : Int) + 1)) (S := fun k => k = B) rfl
  exact ⟨⟨Z.cr.miss, Z.len, Z.nd, Z.lt, Z.ci, Z.kd, fun i hi => (Z.hd i hi).mut m1 (fun k hk => .inl hk), Z.mp.mut m1 (fun e => Z.own.2.2.2.1 e.symm), Z.own, fun k hk => Nat.lt_of_lt_of_le (Z.sz k hk) m1.size⟩, Mut.set w B 4 _ (.inl rfl)⟩
/-- One that is there, made the newest. -/
theorem Cz.renew (Z : Cz w B M g cap n room h m e p S) (ha : a ∈ p) (hn : n ≤ 2000000) :
    Calls Try.prog 23 #[.pointer (some ⟨B, 0, none⟩), .int .i64 (a : Int)] w fun r w' => r = .returned (.tuple #[]) ∧ Cz w' B M g cap n room h m (rn e a) (p.erase a ++ [a]) S ∧ pl (rn e a) (p.erase a ++ [a]) = young (pl e p) ((e a).k, (e a).x) ∧ (rn e a a).k = (e a).k ∧ (rn e a a).v = (e a).v ∧ (rn e a a).x = (e a).x ∧ Mut (fun k => k = B ∨ k = M ∨ k = g) w w' := by
  obtain ⟨b1, b2, b3, b4⟩ := Z.bounds ha (e1 := e) (fun i => ⟨rfl, rfl⟩)
  refine (renew_calls Z.cr b1 b2 b3 b4 hn).mono ?_
  rintro r w' ⟨rfl, c, mm⟩
  have m2 : Mut (fun k => k = B ∨ k = M ∨ k = g) w w' := mm.weak (fun k hk => .inr (.inr hk))
  obtain ⟨z1, z2⟩ := cz_in Z ha (e1 := e) (h' := h) (m' := m) (S' := S) (fun i => ⟨rfl, rfl⟩) (fun i _ => ⟨rfl, rfl, rfl⟩) (fun i hi hne hk => hne (Z.one hi ha hk)) (fun k hk => hk) m2 ((Z.hd a ha).mut m2 (fun k hk => by rcases hk with h | h | h <;> simp [h])) c (Z.mp.mut mm (fun e => Z.own.2.2.2.2 e)) (by simp [pk]) (fun s i => by
    rw [pk_mem]
    constructor
    · rintro ⟨h1, h2⟩
      by_cases e2 : i = a
      · exact .inr ⟨by rw [← e2]; exact h2, e2⟩
      · exact .inl ⟨h1, e2, h2⟩
    · rintro (⟨h1, _, h2⟩ | ⟨h1, h2⟩)
      · exact ⟨h1, h2⟩
      · exact ⟨by rw [h2]; exact ha, by rw [h2]; exact h1⟩) (fun k hk => Nat.lt_of_lt_of_le (Z.sz k hk) mm.size)
  refine ⟨rfl, z1, ?_, (rn_sm e a a).1, (rn_sm e a a).2.1, (rn_sm e a a).2.2, m2⟩
  rw [z2]
  unfold young
  rw [Z.wo ha]
/-- What Get leaves. -/
def CzGet (w : World) (B M g cap n room h m : Nat) (e : Nat → En) (p : List Nat) (S : Nat → Prop) (k : ByteArray) (r : Ending) (w' : World) : Prop :=
  (∃ a sa sn sc e' p', a ∈ p ∧ (e a).k = k ∧ r = .returned (.tuple #[.slice sa sn sc, .bool true]) ∧ w'.ownsRow w.heap.size 3 1 (.slice sa sn sc) sn (iv (e a).x) ∧ Cz w' B M g cap n room (h + 1) m e' p' S ∧ p'.length = p.length ∧ pl e' p' = young (pl e p) (k, (e a).x) ∧ Mut (fun k => k = B ∨ k = M ∨ k = g) w w') ∨
  ((∀ i, (k, i) ∉ pk e p) ∧ r = .returned (.tuple #[.slice none 0 0, .bool false]) ∧ Cz w' B M g cap n room h (m + 1) e p S ∧ Mut (fun k => k = B ∨ k = M ∨ k = g) w w')
set_option maxRecDepth 100000 in
set_option maxHeartbeats 3200000 in
theorem cget_z (Z : Cz w B M g cap n room h m e p S) (k : ByteArray) (hk : k.size ≤ 1000000) (hn : n ≤ 2000000) (hh : h + m ≤ 1000000) :
    Calls Try.prog 13 #[.pointer (some ⟨B, 0, none⟩), .string k] w fun r w' => CzGet w B M g cap n room h m e p S k r w' := by
  obtain ⟨-, c1, -, c3, c4⟩ := Z.cr.cells
  obtain ⟨c, t, hrun, hc⟩ := Z.mp.look k (by unfold maxLen; omega)
  have HC := hid hc
  have ZZ := hid Z
  have LN := hid (fun (a : Nat) (ha : a ∈ p) => (nodup_last Z.nd ha).2)
  have f3 := Z.cr.fr 3
  have f4 := Z.cr.fr 4
  have e3 : IntKind.i64.wrap ((h : Int) + 1) = h + 1 := i64_in (by omega) (by omega)
  have e4 : IntKind.i64.wrap ((m : Int) + 1) = m + 1 := i64_in (by omega) (by omega)
  clear Z hc
  cases t
  · have HN := hid (show ∀ i, (k, i) ∉ pk e p from by
      rcases HC.out with ⟨h, _⟩ | ⟨_, h⟩
      · cases h
      · exact h)
    have Z1 := hid ZZ.out.miss
    clear ZZ HC
    go_enter Try.func13, Try.ntmps13
    go_wp2_with fail
    refine bodyPost_ret (v := .tuple #[.slice none 0 0, .bool false]) (by simp [results, Try.results13, go_sem]) rfl ?_
    exact .inr ⟨HN.out, rfl, Z1.out.1, Z1.out.2⟩
  · obtain ⟨a, rfl, ha⟩ : ∃ a : Nat, c = a ∧ (k, a) ∈ pk e p := by
      rcases HC.out with ⟨_, h⟩ | ⟨h, _⟩
      · exact h
      · cases h
    have HA := hid (pk_mem.1 ha)
    have Z1 := hid ZZ.out.hit
    clear ZZ HC ha c4 f4 e4
    go_enter Try.func13, Try.ntmps13
    go_wp2_with fail
    refine (Z1.out.1.renew HA.out.1 hn).mono ?_
    rintro r w2 ⟨rfl, z2, l2, q1, q2, q3, m2⟩
    obtain ⟨-, -, c2, -, -⟩ := z2.cr.cells
    have hlt := Z1.out.1.lt a HA.out.1
    have p1 := (z2.cr.cell hlt).2.1
    have hd := z2.hd a (by simp)
    have I2 := hid (Hd.ir hd)
    have LL := hid hd.2.2.1
    obtain ⟨⟨va, vn, vc⟩, hv⟩ : ∃ v, (rn e a a).v = v := ⟨_, rfl⟩
    obtain ⟨xs, hx⟩ : ∃ x, (rn e a a).x = x := ⟨_, rfl⟩
    rw [hv, hx] at I2
    rw [hx] at LL q3
    rw [hv] at p1
    unfold sv at p1
    simp only at p1 I2
    have Z2 := hid z2
    have L2 := hid l2
    have XX := hid q3
    have M2 := hid (Z1.out.2.trans m2 (fun _ _ e => e))
    have k0 : (0 : Int) ≤ a := by omega
    have k1 : (a : Int) < n := by omega
    clear z2 l2 q1 q2 q3 m2 hd hv hx Z1 c1 c3 hrun f3 e3
    go_wp2_with fail
    refine (clone_calls I2.out.1 (by rw [I2.out.2]; exact LL.out)).mono ?_
    rintro r w3 ⟨⟨v, rfl, o3⟩, b3⟩
    obtain ⟨sa, sc, rfl, _⟩ := Ir.ofOwn o3
    have O3 := hid o3
    have B3 := hid b3
    clear o3 b3
    go_wp2_with fail
    refine bodyPost_ret (v := .tuple #[.slice sa vn sc, .bool true]) (by simp [results, Try.results13, go_sem]) rfl ?_
    refine .inl ⟨a, sa, vn, sc, _, _, HA.out.1, HA.out.2, rfl, ?_, Z2.out.mut (Mut.ofBelow B3.out fun _ => False) (fun k hk => hk.elim), ?_, ?_, M2.out.trans (Mut.ofBelow B3.out fun _ => False) (fun _ _ e => e.elim)⟩
    · rw [← XX.out]
      exact own_base O3.out M2.out.size
    · have := LN.out a HA.out.1
      simp
      omega
    · rw [L2.out, HA.out.2]
/-- Where the circle goes on. -/
theorem ci_next {e : Nat → En} {dn rs : List Nat} {x : Nat} (h : Ci e (dn ++ x :: rs)) : (e x).n = (rs ++ [0]).headD 0 := by
  obtain ⟨_, h2⟩ := Ch.app.1 h
  cases rs with
  | nil => exact h2.1
  | cons y l => exact h2.1
theorem ci_first {e : Nat → En} {p : List Nat} (h : Ci e p) : (e 0).n = (p ++ [0]).headD 0 := by
  cases p with
  | nil => exact h.1
  | cons y l => exact h.1
set_option maxRecDepth 100000 in
set_option maxHeartbeats 3200000 in
theorem ckeys_z (Z : Cz w B M g cap n room h m e p S) (hn : n ≤ 2000000) :
    Calls Try.prog 17 #[.pointer (some ⟨B, 0, none⟩)] w fun r w' => (∃ a c, r = .returned (.slice a p.length c) ∧ Ts w' a p.length c ((pl e p).map fun x => x.1)) ∧ Below w.heap.size w w' := by
  obtain ⟨i0, hi, hz0, hz1, hz2⟩ := info_parts Try.infoSt
  obtain ⟨-, -, c2, -, -⟩ := Z.cr.cells
  have hlen := Z.len
  have p3 := (Z.cr.cell (i := 0) (by omega)).2.2.2
  rw [ci_first Z.ci] at p3
  obtain ⟨z0, hz⟩ : ∃ z, (p ++ [0]).headD 0 = z := ⟨_, rfl⟩
  rw [hz] at p3
  have HZ0 := hid hz
  have HL := hid Z.lt
  have H0 := hid (List.nodup_cons.1 Z.nd).1
  have HC := hid Z.cr
  have HI := hid Z.ci
  clear Z hz
  have k0 : (0 : Int) < n := by omega
  go_enter Try.func17, Try.ntmps17
  go_wp2_with fail
  go_loopg [3, 4] p.length (fun r rv iv wr => ∃ (dn rs : List Nat) (v : Value) (z : Int), r = rs.length ∧ v = rv ∧ iv = .int .i64 z ∧ Hid (z = (((rs ++ [0]).headD 0 : Nat) : Int)) ∧ Hid (dn ++ rs = p) ∧ Hid (wr.ownsRow w.heap.size 9 1 v dn.length (tv (dn.map fun i => (e i).k))) ∧ Hid (Below w.heap.size w wr))
  case atStart => exact ⟨[], p, _, _, rfl, rfl, rfl, hid (by rw [HZ0.out]), hid rfl, hid (World.ownsRow_nil _ _ _ _), hid (Below.refl _ _)⟩
  case round =>
    clear c2 p3
    obtain ⟨dn, rs, v, z, rfl, rfl, rfl, HZ, HP, HO, HB⟩ := hrel
    cases rs with
    | nil =>
      obtain rfl : z = 0 := HZ.out
      have hp : dn = p := by have := HP.out; rwa [List.append_nil] at this
      subst hp
      obtain ⟨a, c, rfl, T⟩ := Ts.ofOwn HO.out
      have TT := hid T
      clear T HO
      go_wp2_with fail
      go_ret
      have T := TT.out
      exact ⟨⟨a, c, rfl, by unfold pl; rw [List.map_map]; exact T⟩, HB.out⟩
    | cons x rs =>
      obtain rfl : z = (x : Int) := HZ.out
      have hx : x ∈ p := by rw [← HP.out]; simp
      have hxn := HL.out x hx
      have hx0 : (x : Int) ≠ 0 := fun e => H0.out (by have : x = 0 := by omega
                                                      rw [← this]; exact hx)
      have k1 : (0 : Int) ≤ x := by omega
      have k2 : (x : Int) < n := by omega
      have hdl : dn.length ≤ 2000000 := by
        have := congrArg List.length HP.out
        simp at this
        omega
      have C1 := hid (HC.out.below HB.out)
      obtain ⟨-, -, c2, -, -⟩ := C1.out.cells
      have p0 := (C1.out.cell hxn).1
      obtain ⟨s, hs⟩ : ∃ s, (e x).k = s := ⟨_, rfl⟩
      rw [hs] at p0
      have HS := hid hs
      have HNx := hid (show (e x).n = (rs ++ [0]).headD 0 from ci_next (dn := dn) (rs := rs) (by rw [HP.out]; exact HI.out))
      have sz := HB.out.size
      have HP2 := hid (show (dn ++ [x]) ++ rs = p from by rw [List.append_assoc]; exact HP.out)
      clear hs hx
      go_wp2_with (at_builtin; refine wpList_append_src rfl _ _ 41 rfl w.heap.size 9 i0 _ 1 16 Try.underlying41 hi hz0 hz1 hz2 rfl (by decide) v dn.length (tv (dn.map fun i => (e i).k)) rfl (HO.out.alloc _) (some ⟨wr.heap.size, 0, none⟩) 1 1 [.string s] rfl (Src.new #[.string s] 9 wr.heap.size rfl rfl (fun u hu => by simp at hu; rw [hu]; rfl)) (by unfold maxLen; omega) (by omega) (by simp; omega) ?_; intro v4 w4 ho4 hg4 hb4; have O4 := hid ho4; have B4 := hid ((HB.out.alloc sz (.cells #[.string s] 9)).grown hg4 (by simp; omega) (fun k e => by have := (HO.out.lt k e).1; omega)); clear ho4 hg4 hb4; have C4 := hid (HC.out.below B4.out); clear c2 p0; have c2 := C4.out.cells.2.2.1; have p3 := (C4.out.cell hxn).2.2.2)
      go_roundg rs.length
      case measure => simp
      case rel => exact ⟨dn ++ [x], rs, v4, _, rfl, rfl, rfl, hid (by rw [HNx.out]), HP2, hid (by
        have := O4.out
        rw [show tv (dn.map fun i => (e i).k) ++ [.string s] = tv ((dn ++ [x]).map fun i => (e i).k) from by rw [List.map_append, ← tv_append]; show _ = _ ++ [Value.string (e x).k]; rw [HS.out]] at this
        rw [List.length_append]
        exact this), B4⟩
end
end
end Go.Proofs.Ytbcanfelfdalbaa
