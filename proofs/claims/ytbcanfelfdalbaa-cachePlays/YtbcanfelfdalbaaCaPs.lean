/-
  What becomes of a whole cache as a key is put: where it was there, where the eldest one goes, where there is room.
-/
import Derived.Test.YtbcanfelfdalbaaCaPl
namespace Go.Proofs.Ytbcanfelfdalbaa
open Go.RowKit Go.Maps Ca
set_option linter.unusedVariables false
theorem wo_drop {l : Kl} {k : ByteArray} {x : Kx} {room : Nat} (h : ∀ y ∈ l, y.1 ≠ k) (hr : l.length < room) (hx : x.1 = k) : Ca.put l room x = l ++ [x] := by
  have h1 : young l x = l ++ [x] := by unfold young; rw [hx, wo_none h]
  unfold Ca.put
  rw [h1, if_neg (by simp; omega)]
theorem put_full {y : Kx} {l : Kl} {k : ByteArray} {x : Kx} {room : Nat} (h : ∀ z ∈ y :: l, z.1 ≠ k) (hr : (y :: l).length = room) (hx : x.1 = k) : Ca.put (y :: l) room x = l ++ [x] := by
  have h1 : young (y :: l) x = (y :: l) ++ [x] := by unfold young; rw [hx, wo_none h]
  unfold Ca.put
  rw [h1, if_pos (by simp at hr ⊢; omega)]
  rfl
theorem put_found {l : Kl} {x : Kx} {room : Nat} (hl : (young l x).length ≤ room) : Ca.put l room x = young l x := by
  unfold Ca.put
  rw [if_neg (by omega)]
theorem sK_same {e : Nat → En} {a : Nat} {k : ByteArray} (h : (e a).k = k) : sK e a k = e := by
  funext i
  unfold sK up
  by_cases hi : i = a
  · rw [if_pos hi, hi, ← h]
  · rw [if_neg hi]
theorem svk_k (e : Nat → En) (a : Nat) (k : ByteArray) (v : Sv) (x : Pr.Row) : (sV (sK e a k) a v x a).k = k ∧ (sV (sK e a k) a v x a).v = v ∧ (sV (sK e a k) a v x a).x = x := by
  obtain ⟨h1, h2, h3⟩ := sV_at (sK e a k) a v x
  exact ⟨h1.trans (sK_k e a k), h2, h3⟩
theorem svk_on (e : Nat → En) (a : Nat) (k : ByteArray) (v : Sv) (x : Pr.Row) (i : Nat) : (sV (sK e a k) a v x i).o = (e i).o ∧ (sV (sK e a k) a v x i).n = (e i).n :=
  ⟨(sV_on _ a v x i).1.trans (sK_on e a k i).1, (sV_on _ a v x i).2.trans (sK_on e a k i).2⟩
theorem svk_ne (e : Nat → En) {a i : Nat} (k : ByteArray) (v : Sv) (x : Pr.Row) (h : i ≠ a) : sV (sK e a k) a v x i = e i := by rw [sV_ne _ _ _ h, sK_ne _ _ h]
/-- What Put leaves. -/
def CzPut (w : World) (B M room h m : Nat) (l : Kl) (S : Nat → Prop) (x : Kx) (w' : World) : Prop :=
  ∃ g' cap' n' e' p' S', Cz w' B M g' cap' n' room h m e' p' S' ∧ p'.length ≤ room ∧ pl e' p' = Ca.put l room x ∧ (∀ b, S' b → S b ∨ w.heap.size ≤ b) ∧ Mut S w w'
section
variable {w w' : World} {B M g g2 cap cap2 n room h m a : Nat} {e e1 : Nat → En} {p p0 : List Nat} {S S' : Nat → Prop} {k : ByteArray} {xs : Pr.Row} {v : Sv} {ks : List (ByteArray × Nat)}
theorem Cz.three (Z : Cz w B M g cap n room h m e p S) {b : Nat} (hb : b = B ∨ b = M ∨ b = g) : S b := by
  rcases hb with rfl | rfl | rfl
  · exact Z.own.1
  · exact Z.own.2.1
  · exact Z.own.2.2.1
theorem hd_own (Z : Cz w B M g cap n room h m e p S) (hg : g2 < w.heap.size ∨ (w.heap.size ≤ g2 ∧ (sv v).ownBlock ≠ some g2)) (hk : k.size ≤ 1000000) (hx : xs.length ≤ 1000000) (own : w'.ownsRow w.heap.size 3 1 (sv v) xs.length (iv xs)) {q : En} (hq : q.k = k ∧ q.v = v ∧ q.x = xs) :
    Hd w' (fun b => S b ∨ (w.heap.size ≤ b ∧ b < w'.heap.size)) B M g2 q := by
  obtain ⟨e1, e2, e3⟩ := hq
  unfold Hd
  rw [e1, e2, e3]
  refine ⟨own_base own (Nat.zero_le _), fun b hb => ?_, hx, hk⟩
  obtain ⟨l1, l2⟩ := own.lt b hb
  have hB := Z.cr.lt
  have hM := Z.mp.lt
  refine ⟨.inr ⟨l1, l2⟩, by omega, by omega, ?_⟩
  rcases hg with hg | ⟨_, hg⟩
  · omega
  · exact fun e => hg (by rw [hb, e])
theorem put_in (Z : Cz w B M g cap n room h m e p S) (ha : a ∈ p) (hno : ∀ i ∈ p, i ≠ a → (e i).k ≠ k) (hk : k.size ≤ 1000000) (hx : xs.length ≤ 1000000) (cr : Cr w' B M g cap n room h m (rn (sV (sK e a k) a v xs) a))
    (mp : Mp w' M ks) (hks : ks.length = p.length) (mem : ∀ s i, (s, i) ∈ ks ↔ (i ∈ p ∧ i ≠ a ∧ (e i).k = s) ∨ (k = s ∧ i = a)) (hm : Mut (fun k => k = B ∨ k = M ∨ k = g) w w') (own : w'.ownsRow w.heap.size 3 1 (sv v) xs.length (iv xs)) (hp : p.length ≤ room)
    (hl : pl e (p.erase a) ++ [(k, xs)] = Ca.put (pl e p) room (k, xs)) : CzPut w B M room h m (pl e p) S (k, xs) w' := by
  have K := svk_k e a k v xs
  obtain ⟨z1, z2⟩ := cz_in Z ha (e1 := sV (sK e a k) a v xs) (h' := h) (m' := m) (S' := fun b => S b ∨ (w.heap.size ≤ b ∧ b < w'.heap.size)) (svk_on e a k v xs) (fun i hi => by rw [svk_ne e k v xs hi]; exact ⟨rfl, rfl, rfl⟩)
    (fun i hi hne => by rw [K.1]; exact hno i hi hne) (fun b hb => .inl hb) hm (hd_own Z (.inl Z.cr.ltg) hk hx own K) cr mp hks (fun s i => by rw [K.1]; exact mem s i) (fun b hb => by
      rcases hb with h | h
      · exact Nat.lt_of_lt_of_le (Z.sz b h) hm.size
      · exact h.2)
  refine ⟨g, cap, n, _, _, _, z1, ?_, ?_, fun b hb => hb.imp id (fun h => h.1), hm.weak (fun b hb => Z.three hb)⟩
  · have := (nodup_last Z.nd ha).2
    simp
    omega
  · rw [z2, K.1, K.2.2]
    exact hl
/-- The key was there. -/
theorem put_there (Z : Cz w B M g cap n room h m e p S) (ha : a ∈ p) (hak : (e a).k = k) (hk : k.size ≤ 1000000) (hx : xs.length ≤ 1000000) (cr : Cr w' B M g cap n room h m (rn (sV e a v xs) a))
    (mp : Mp w' M (pk e p)) (hm : Mut (fun k => k = B ∨ k = M ∨ k = g) w w') (own : w'.ownsRow w.heap.size 3 1 (sv v) xs.length (iv xs)) (hp : p.length ≤ room) : CzPut w B M room h m (pl e p) S (k, xs) w' := by
  have hlen := (nodup_last Z.nd ha).2
  have hw := Z.wo ha
  rw [hak] at hw
  refine put_in Z ha (fun i hi hne hik => hne (Z.one hi ha (hik.trans hak.symm))) hk hx (by rw [sK_same hak]; exact cr) mp (by simp [pk]) (fun s i => ?_) hm own hp ?_
  · rw [pk_mem]
    constructor
    · rintro ⟨h1, h2⟩
      by_cases e2 : i = a
      · exact .inr ⟨by rw [← hak, ← e2]; exact h2, e2⟩
      · exact .inl ⟨h1, e2, h2⟩
    · rintro (⟨h1, _, h2⟩ | ⟨h1, h2⟩)
      · exact ⟨h1, h2⟩
      · exact ⟨by rw [h2]; exact ha, by rw [h2, hak]; exact h1⟩
  · have h1 : young (pl e p) (k, xs) = pl e (p.erase a) ++ [(k, xs)] := by unfold young; rw [hw]
    rw [put_found (by rw [h1]; simp [pl]; omega), h1]
/-- Where place leads to. -/
def PlWay (W : Nat) (room : Nat) (e e1 : Nat → En) (p : List Nat) (g g2 cap cap2 n n2 a : Nat) (ks : List (ByteArray × Nat)) : Prop :=
  (∃ p1, p = a :: p1 ∧ p.length = room ∧ e1 = e ∧ n2 = n ∧ g2 = g ∧ cap2 = cap ∧ ks = pk e p1) ∨
  (p.length < room ∧ a = n ∧ n2 = n + 1 ∧ e1 = ext e n ∧ ks = pk e p ∧ (g2 = g ∨ W ≤ g2))
theorem ext_old {e : Nat → En} {n i : Nat} (h : i < n) : ext e n i = e i := if_pos h
theorem ext_new (e : Nat → En) (n : Nat) : (ext e n n).o = n ∧ (ext e n n).n = n := by unfold ext; rw [if_neg (Nat.lt_irrefl _)]; exact ⟨rfl, rfl⟩
/-- The key was not there. -/
theorem put_else {n2 : Nat} (Z : Cz w B M g cap n room h m e p S) (way : PlWay w.heap.size room e e1 p g g2 cap cap2 n n2 a ks) (hno : ∀ i, (k, i) ∉ pk e p) (hk : k.size ≤ 1000000) (hx : xs.length ≤ 1000000) (cr : Cr w' B M g2 cap2 n2 room h m (rn (sV (sK e1 a k) a v xs) a))
    (mp : Mp w' M ((k, a) :: ks)) (hm : Mut (fun k => k = B ∨ k = M ∨ k = g) w w') (own : w'.ownsRow w.heap.size 3 1 (sv v) xs.length (iv xs)) (hv : (sv v).ownBlock ≠ some g2) (hMg : M ≠ g2) : CzPut w B M room h m (pl e p) S (k, xs) w' := by
  rcases way with ⟨p1, rfl, hr, rfl, rfl, rfl, rfl, rfl⟩ | ⟨hr, rfl, rfl, rfl, rfl, hg⟩
  · have ha : a ∉ p1 := (List.nodup_cons.1 (List.nodup_cons.1 Z.nd).2).1
    have hE : (a :: p1).erase a = p1 := by simp
    refine put_in Z (a := a) (by simp) (fun i hi _ hik => hno i (pk_mem.2 ⟨hi, hik⟩)) hk hx cr mp (by simp [pk]) (fun s i => ?_) hm own (by omega) ?_
    · rw [List.mem_cons, pk_mem, Prod.mk.injEq]
      constructor
      · rintro (⟨h1, h2⟩ | ⟨h1, h2⟩)
        · exact .inr ⟨h1.symm, h2⟩
        · exact .inl ⟨List.mem_cons_of_mem _ h1, fun e => ha (by rw [← e]; exact h1), h2⟩
      · rintro (⟨h1, h2, h3⟩ | ⟨h1, h2⟩)
        · rcases List.mem_cons.1 h1 with h4 | h4
          · exact absurd h4 h2
          · exact .inr ⟨h4, h3⟩
        · exact .inl ⟨h1.symm, h2⟩
    · rw [hE]
      have hq := pl_none (e := e1) (p := a :: p1) hno
      exact (put_full (y := ((e1 a).k, (e1 a).x)) (l := pl e1 p1) (x := (k, xs)) hq (by have := pl_len e1 (a :: p1); rw [← hr]; exact this) rfl).symm
  · have hl := Z.len
    have K := svk_k (ext e a) a k v xs
    have hn : a ∉ 0 :: p := fun h => by
      rcases List.mem_cons.1 h with h | h
      · omega
      · exact Nat.lt_irrefl _ (Z.lt a h)
    have hne : ∀ i ∈ p, i ≠ a := fun i hi e => hn (List.mem_cons.2 (.inr (by rw [← e]; exact hi)))
    have hold : ∀ i ∈ p, sV (sK (ext e a) a k) a v xs i = e i := fun i hi => by rw [svk_ne _ k v xs (hne i hi), ext_old (Z.lt i hi)]
    have hgs : g2 < w.heap.size ∨ (w.heap.size ≤ g2 ∧ (sv v).ownBlock ≠ some g2) := by
      rcases hg with rfl | hg
      · exact .inl Z.cr.ltg
      · exact .inr ⟨hg, hv⟩
    have hon : ∀ i, i = 0 ∨ i ∈ p → (sV (sK (ext e a) a k) a v xs i).o = (e i).o ∧ (sV (sK (ext e a) a k) a v xs i).n = (e i).n := fun i hi => by
      have hia : i < a := by
        rcases hi with h | h
        · omega
        · exact Z.lt i h
      rw [svk_ne _ k v xs (by omega), ext_old hia]
      exact ⟨rfl, rfl⟩
    have hci : Ci (sV (sK (ext e a) a k) a v xs) p := Ch.congr Z.ci (fun i hi => (hon i (List.mem_cons.1 hi)).2) (fun i hi => (hon i hi.symm).1)
    have hao := svk_on (ext e a) a k v xs a
    have hex := ext_new e a
    obtain ⟨z1, z2⟩ := cz_make (w' := w') (B := B) (M := M) (g := g2) (cap := cap2) (n := a + 1) (room := room) (h := h) (m := m) (a := a) (e := e) (e1 := sV (sK (ext e a) a k) a v xs) (p0 := p) (S := fun b => S b ∨ (w.heap.size ≤ b ∧ b < w'.heap.size)) (ks := (k, a) :: pk e p)
      (by omega) (List.nodup_cons.2 ⟨fun h => (List.nodup_cons.1 Z.nd).1 (by
        rcases List.mem_append.1 h with h | h
        · exact h
        · exact absurd (List.mem_singleton.1 h) (by omega)), List.nodup_append.2 ⟨(List.nodup_cons.1 Z.nd).2, by simp, fun i hi j hj e => hne i hi (by rw [e, List.mem_singleton.1 hj])⟩⟩) (fun i hi => by
        rcases List.mem_append.1 hi with h | h
        · exact Nat.lt_succ_of_lt (Z.lt i h)
        · rw [List.mem_singleton.1 h]; exact Nat.lt_succ_self _) (ci_new hci Z.nd hn (hao.1.trans hex.1) (hao.2.trans hex.2)).1 Z.kd (fun i hi => by rw [hold i hi]; exact ⟨rfl, rfl, rfl⟩) (fun i hi hik => hno i (pk_mem.2 ⟨hi, by rw [hik, K.1]⟩)) (fun i hi => by
        have q := (Z.hd i hi).mut hm (fun b hb => by rcases hb with h | h | h <;> simp [h])
        refine ⟨q.1, fun b hb => ?_, q.2.2⟩
        obtain ⟨s1, s2, s3, s4⟩ := q.2.1 b hb
        have := Z.sz b s1
        refine ⟨.inl s1, s2, s3, ?_⟩
        rcases hg with rfl | hg
        · exact s4
        · omega) (hd_own Z hgs hk hx own K) cr mp (by simp [pk]) (fun s i => by
        rw [List.mem_cons, pk_mem, Prod.mk.injEq, K.1]
        constructor
        · rintro (⟨h1, h2⟩ | h1)
          · exact .inr ⟨h1.symm, h2⟩
          · exact .inl h1
        · rintro (h1 | ⟨h1, h2⟩)
          · exact .inr h1
          · exact .inl ⟨h1.symm, h2⟩) ⟨.inl Z.own.1, .inl Z.own.2.1, (by
        rcases hg with rfl | hg
        · exact .inl Z.own.2.2.1
        · exact .inr ⟨hg, cr.ltg⟩), Z.own.2.2.2.1, hMg⟩ (fun b hb => by
      rcases hb with h | h
      · exact Nat.lt_of_lt_of_le (Z.sz b h) hm.size
      · exact h.2)
    refine ⟨g2, cap2, a + 1, _, _, _, z1, by simp; omega, ?_, fun b hb => hb.imp id (fun h => h.1), hm.weak (fun b hb => Z.three hb)⟩
    rw [z2, K.1, K.2.2]
    exact (wo_drop (x := (k, xs)) (pl_none hno) (by rw [pl_len]; exact hr) rfl).symm
end
end Go.Proofs.Ytbcanfelfdalbaa
