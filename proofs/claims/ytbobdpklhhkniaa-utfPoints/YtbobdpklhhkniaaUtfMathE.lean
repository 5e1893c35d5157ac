/-
  The lesser code point's bytes stand ahead of the greater one's.
-/
import Derived.Test.YtbobdpklhhkniaaUtfMathD
import Derived.Test.YtbobdpklhhkniaaSt
namespace Go.Proofs.Ytbobdpklhhkniaa.Utf

/-- Two rows part at a first place. -/
def Part (f g : Nat → Int) (i : Nat) : Prop := (∀ j, j < i → f j = g j) ∧ f i < g i

theorem encF_0 {p : Int} (h : 0 ≤ p) : (encN p = 1 → encF p 0 < 128) ∧ (encN p = 2 → 194 ≤ encF p 0 ∧ encF p 0 < 224) ∧ (encN p = 3 → 224 ≤ encF p 0 ∧ encF p 0 < 240) ∧ (encN p = 4 → 240 ≤ encF p 0) := by
  by_cases a : p < 128
  · have e := enc_1 a
    have e0 : encF p 0 = p := by unfold encF; rw [e.2]; rfl
    rw [e.1, e0]; omega
  by_cases b : p < 2048
  · have e := enc_2 (by omega) b
    have e0 : encF p 0 = 192 + p / 64 := by unfold encF; rw [e.2]; rfl
    rw [e.1, e0]; omega
  by_cases c : p < 65536
  · have e := enc_3 (by omega) c
    have e0 : encF p 0 = 224 + p / 4096 := by unfold encF; rw [e.2]; rfl
    rw [e.1, e0]; omega
  · have e := enc_4 (p := p) (by omega)
    have e0 : encF p 0 = 240 + p / 262144 := by unfold encF; rw [e.2]; rfl
    rw [e.1, e0]; omega

theorem enc_parts {p q : Int} (hp : isPt p = true) (hq : isPt q = true) (h : p < q) : ∃ i, i < encN p ∧ i < encN q ∧ Part (encF p) (encF q) i := by
  have p0 := (isPt_iff p).1 hp
  have q0 := (isPt_iff q).1 hq
  have np := encN_lt (q := p)
  have nq := encN_lt (q := q)
  have op := (enc_ok hp).1
  have op' := (enc_ok hp).2.1
  have oq := (enc_ok hq).1
  have oq' := (enc_ok hq).2.1
  have fp := encF_0 (p := p) p0.1
  have fq := encF_0 (p := q) q0.1
  have first : encF p 0 < encF q 0 → ∃ i, i < encN p ∧ i < encN q ∧ Part (encF p) (encF q) i := fun x => ⟨0, by omega, by omega, fun j a => absurd a (by omega), x⟩
  by_cases e : encN p = encN q
  · have hn : encN p = 1 ∨ encN p = 2 ∨ encN p = 3 ∨ encN p = 4 := by omega
    rcases hn with n | n | n | n
    · have ep := enc_1 (p := p) (by omega)
      have eq := enc_1 (p := q) (by omega)
      apply first
      unfold encF; rw [ep.2, eq.2]; exact h
    · have ep := enc_2 (p := p) (by omega) (by omega)
      have eq := enc_2 (p := q) (by omega) (by omega)
      by_cases x : p / 64 < q / 64
      · apply first
        unfold encF; rw [ep.2, eq.2]; show 192 + p / 64 < 192 + q / 64; omega
      · refine ⟨1, by omega, by omega, fun j a => ?_, ?_⟩
        · obtain rfl : j = 0 := by omega
          unfold encF; rw [ep.2, eq.2]; show 192 + p / 64 = 192 + q / 64; omega
        · unfold encF; rw [ep.2, eq.2]; show 128 + p % 64 < 128 + q % 64; omega
    · have ep := enc_3 (p := p) (by omega) (by omega)
      have eq := enc_3 (p := q) (by omega) (by omega)
      by_cases x : p / 4096 < q / 4096
      · apply first
        unfold encF; rw [ep.2, eq.2]; show 224 + p / 4096 < 224 + q / 4096; omega
      · by_cases y : p / 64 < q / 64
        · refine ⟨1, by omega, by omega, fun j a => ?_, ?_⟩
          · obtain rfl : j = 0 := by omega
            unfold encF; rw [ep.2, eq.2]; show 224 + p / 4096 = 224 + q / 4096; omega
          · unfold encF; rw [ep.2, eq.2]; show 128 + p / 64 % 64 < 128 + q / 64 % 64; omega
        · refine ⟨2, by omega, by omega, fun j a => ?_, ?_⟩
          · unfold encF; rw [ep.2, eq.2]
            obtain rfl | rfl : j = 0 ∨ j = 1 := by omega
            · show 224 + p / 4096 = 224 + q / 4096; omega
            · show 128 + p / 64 % 64 = 128 + q / 64 % 64; omega
          · unfold encF; rw [ep.2, eq.2]; show 128 + p % 64 < 128 + q % 64; omega
    · have ep := enc_4 (p := p) (by omega)
      have eq := enc_4 (p := q) (by omega)
      by_cases x : p / 262144 < q / 262144
      · apply first
        unfold encF; rw [ep.2, eq.2]; show 240 + p / 262144 < 240 + q / 262144; omega
      · by_cases y : p / 4096 < q / 4096
        · refine ⟨1, by omega, by omega, fun j a => ?_, ?_⟩
          · obtain rfl : j = 0 := by omega
            unfold encF; rw [ep.2, eq.2]; show 240 + p / 262144 = 240 + q / 262144; omega
          · unfold encF; rw [ep.2, eq.2]; show 128 + p / 4096 % 64 < 128 + q / 4096 % 64; omega
        · by_cases z : p / 64 < q / 64
          · refine ⟨2, by omega, by omega, fun j a => ?_, ?_⟩
            · unfold encF; rw [ep.2, eq.2]
              obtain rfl | rfl : j = 0 ∨ j = 1 := by omega
              · show 240 + p / 262144 = 240 + q / 262144; omega
              · show 128 + p / 4096 % 64 = 128 + q / 4096 % 64; omega
            · unfold encF; rw [ep.2, eq.2]; show 128 + p / 64 % 64 < 128 + q / 64 % 64; omega
          · refine ⟨3, by omega, by omega, fun j a => ?_, ?_⟩
            · unfold encF; rw [ep.2, eq.2]
              obtain rfl | rfl | rfl : j = 0 ∨ j = 1 ∨ j = 2 := by omega
              · show 240 + p / 262144 = 240 + q / 262144; omega
              · show 128 + p / 4096 % 64 = 128 + q / 4096 % 64; omega
              · show 128 + p / 64 % 64 = 128 + q / 64 % 64; omega
            · unfold encF; rw [ep.2, eq.2]; show 128 + p % 64 < 128 + q % 64; omega
  · have x : encF p 0 < encF q 0 := by
      clear first
      omega
    exact first x

/-- Two lists of bytes that part at a place: the one that has the lesser byte there stands ahead. -/
theorem less_of_part : ∀ (a b : List UInt8) (i : Nat), i < a.length → i < b.length → (∀ j, j < i → a[j]? = b[j]?) → (∀ x y, a[i]? = some x → b[i]? = some y → x < y) → Op.bytesLess a b = true ∧ Op.bytesLess b a = false
  | [], _, _, h, _, _, _ => absurd h (by simp)
  | _ :: _, [], _, _, h, _, _ => absurd h (by simp)
  | x :: a, y :: b, 0, _, _, _, h => by
    have hxy := h x y rfl rfl
    have h2 : ¬ y < x := UInt8.lt_asymm hxy
    have h3 : ¬ y = x := fun e => by rw [e] at hxy; exact UInt8.lt_irrefl _ hxy
    simp [Op.bytesLess, hxy, h2, h3]
  | x :: a, y :: b, i + 1, ha, hb, hj, h => by
    have e : x = y := by simpa using hj 0 (by omega)
    subst e
    have ih := less_of_part a b i (by simpa using ha) (by simpa using hb) (fun j hi => by simpa using hj (j + 1) (by omega)) (fun u v hu hv => h u v (by simpa using hu) (by simpa using hv))
    simp [Op.bytesLess, ih.1, ih.2]
end Go.Proofs.Ytbobdpklhhkniaa.Utf
namespace Go.Proofs.Ytbobdpklhhkniaa
theorem St.get? {s : ByteArray} {n : Nat} {f : Nat → Int} (h : St s n f) {i : Nat} (hi : i < n) : ∃ x : UInt8, s.toList[i]? = some x ∧ (x.toNat : Int) = f i := by
  have hi' : i < s.size := by rw [h.size]; exact hi
  refine ⟨s[i]'hi', ?_, h.get i hi'⟩
  rw [ByteArray.toList_eq, Array.getElem?_toList]
  exact Array.getElem?_eq_getElem hi'
theorem St.length {s : ByteArray} {n : Nat} {f : Nat → Int} (h : St s n f) : s.toList.length = n := by
  rw [ByteArray.toList_eq, Array.length_toList]; exact h.size
theorem St.less {s t : ByteArray} {n m i : Nat} {f g : Nat → Int} (hs : St s n f) (ht : St t m g) (hn : i < n) (hm : i < m) (h : Utf.Part f g i) : Op.bytesLess s.toList t.toList = true ∧ Op.bytesLess t.toList s.toList = false := by
  refine Utf.less_of_part _ _ i (by rw [hs.length]; exact hn) (by rw [ht.length]; exact hm) (fun j hj => ?_) (fun x y hx hy => ?_)
  · obtain ⟨x, e1, e2⟩ := hs.get? (i := j) (by omega)
    obtain ⟨y, e3, e4⟩ := ht.get? (i := j) (by omega)
    rw [e1, e3]
    have := h.1 j hj
    congr 1
    apply UInt8.toNat_inj.1
    omega
  · obtain ⟨x', e1, e2⟩ := hs.get? hn
    obtain ⟨y', e3, e4⟩ := ht.get? hm
    rw [e1] at hx
    rw [e3] at hy
    cases hx
    cases hy
    have := h.2
    rw [UInt8.lt_iff_toNat_lt]
    omega
/-- Two rows that part have no common first part of that length. -/
theorem St.part_ne {s t : ByteArray} {n m i k : Nat} {f g : Nat → Int} (hs : St s n f) (ht : St t m g) (hi : i < k) (hn : k ≤ n) (hm : k ≤ m) (h : f i ≠ g i) : ((s.extract 0 k).toList == (t.extract 0 k).toList) = false := by
  refine (hs.extract 0 k (by omega) hn).beq_no (ht.extract 0 k (by omega) hm) (fun x => h ?_)
  have := x.2 i (by omega)
  simpa using this
end Go.Proofs.Ytbobdpklhhkniaa
