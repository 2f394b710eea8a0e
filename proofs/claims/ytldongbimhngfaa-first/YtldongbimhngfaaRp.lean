/- What an unfailed reading says of the text: plain mathematics. -/
import Derived.Test.YtldongbimhngfaaAuto
namespace Go.Proofs.Ytldongbimhngfaa
set_option linter.unusedVariables false
set_option linter.unusedSimpArgs false
namespace Sv

/-- the value of a digit; -1: it is none -/
def hexVal (c : Int) : Int := if 48 ≤ c ∧ c ≤ 57 then c - 48 else if 97 ≤ c ∧ c ≤ 102 then c - 87 else -1
/-- the value of k digits from p on -/
def numN (t : ByteArray) (p : Nat) : Nat → Int
  | 0 => 0
  | k + 1 => 16 * numN t p k + hexVal (byteAt t (p + k))

theorem digit_ok (t : ByteArray) (p : Nat) (h : (digit t ⟨p, false⟩).2.f = false) : digit t ⟨p, false⟩ = (hexVal (byteAt t p), ⟨p + 1, false⟩) ∧ p < t.size ∧ 0 ≤ hexVal (byteAt t p) ∧ hexVal (byteAt t p) ≤ 15 := by
  have hl : look t ⟨p, false⟩ = byteAt t p := rfl
  have hlt : 0 ≤ byteAt t p → p < t.size := lt_of_byteAt
  unfold digit at h ⊢
  rw [hl] at h ⊢
  unfold hexVal
  by_cases h1 : 48 ≤ byteAt t p ∧ byteAt t p ≤ 57
  · simp only [h1, and_self, if_true]
    exact ⟨trivial, hlt (by omega), by omega, by omega⟩
  · by_cases h2 : 97 ≤ byteAt t p ∧ byteAt t p ≤ 102
    · rw [if_neg h1, if_pos h2, if_neg h1, if_pos h2]
      refine ⟨?_, hlt (by omega), by omega, by omega⟩
      congr 1
      omega
    · rw [if_neg h1, if_neg h2] at h
      cases h
theorem digit_stays (t : ByteArray) (s : St) (h : s.f = true) : (digit t s).2 = ⟨s.p, true⟩ := by
  have hl : look t s = -1 := by unfold look; rw [h]; rfl
  unfold digit; rw [hl]; simp
theorem wordTo_ok (t : ByteArray) (p : Nat) (k : Nat) (h : (wordTo t ⟨p, false⟩ k).2.f = false) : wordTo t ⟨p, false⟩ k = (numN t p k, ⟨p + k, false⟩) ∧ (0 < k → p + k ≤ t.size) ∧ 0 ≤ numN t p k ∧ numN t p k < 16 ^ k := by
  induction k with
  | zero => exact ⟨rfl, fun h => by omega, by simp [numN], by simp [numN]⟩
  | succ k ih =>
    have hk : (wordTo t ⟨p, false⟩ k).2.f = false := by
      cases hf : (wordTo t ⟨p, false⟩ k).2.f
      · rfl
      · simp only [wordTo] at h
        rw [digit_stays t _ hf] at h
        cases h
    obtain ⟨e, _, h1, h2⟩ := ih hk
    simp only [wordTo] at h ⊢
    rw [e] at h ⊢
    simp only at h ⊢
    obtain ⟨e2, h3, h4, h5⟩ := digit_ok t (p + k) h
    rw [e2]
    refine ⟨rfl, fun _ => by omega, ?_, ?_⟩
    · simp only [numN]; omega
    · simp only [numN]; rw [Int.pow_succ]; omega
theorem word_ok (t : ByteArray) (p : Nat) (h : (word t ⟨p, false⟩).2.f = false) : word t ⟨p, false⟩ = (numN t p 4, ⟨p + 4, false⟩) ∧ p + 4 ≤ t.size ∧ 0 ≤ numN t p 4 ∧ numN t p 4 < 65536 := by
  obtain ⟨e, h1, h2, h3⟩ := wordTo_ok t p 4 h
  exact ⟨e, h1 (by omega), h2, by omega⟩
theorem word_stays (t : ByteArray) (s : St) (h : s.f = true) : (word t s).2.f = true := by
  have h0 := digit_stays t s h
  show (digit t (digit t (digit t (digit t s).2).2).2).2.f = true
  rw [h0, digit_stays t _ rfl, digit_stays t _ rfl, digit_stays t _ rfl]
theorem numN_8 (t : ByteArray) (p : Nat) : numN t p 8 = 65536 * numN t p 4 + numN t (p + 4) 4 := by
  simp only [numN, Nat.add_assoc, Nat.reduceAdd, Nat.add_zero]; omega
theorem value_ok (t : ByteArray) (p : Nat) (h : (value t ⟨p, false⟩).2.f = false) : value t ⟨p, false⟩ = ((numN t p 4, numN t (p + 4) 4), ⟨p + 8, false⟩) ∧ p + 8 ≤ t.size ∧
    (0 ≤ numN t p 4 ∧ numN t p 4 < 65536) ∧ 0 ≤ numN t (p + 4) 4 ∧ numN t (p + 4) 4 < 65536 := by
  have h1 : (word t ⟨p, false⟩).2.f = false := by
    cases hf : (word t ⟨p, false⟩).2.f
    · rfl
    · have := word_stays t _ hf
      have h' : (word t (word t ⟨p, false⟩).2).2.f = false := h
      rw [this] at h'; cases h'
  obtain ⟨e1, a1, a2, a3⟩ := word_ok t p h1
  have h2 : (word t ⟨p + 4, false⟩).2.f = false := by
    have h' : (word t (word t ⟨p, false⟩).2).2.f = false := h
    rw [e1] at h'; exact h'
  obtain ⟨e2, b1, b2, b3⟩ := word_ok t (p + 4) h2
  refine ⟨?_, by omega, ⟨a2, a3⟩, b2, b3⟩
  show (((word t ⟨p, false⟩).1, (word t (word t ⟨p, false⟩).2).1), (word t (word t ⟨p, false⟩).2).2) = _
  rw [e1]
  simp only
  rw [e2]

theorem value_stays (t : ByteArray) (s : St) (h : s.f = true) : (value t s).2.f = true := word_stays t _ (word_stays t s h)
theorem need_stays (t : ByteArray) (b : Int) (hb : 0 ≤ b) (s : St) (h : s.f = true) : (need t b s).f = true := by
  have hl : look t s = -1 := by unfold look; rw [h]; rfl
  unfold need; rw [hl, if_neg (by omega)]
theorem unfailed {b : Bool} {P : Prop} (h : b = false) (hp : P) (f : P → b = true) : False := by
  rw [f hp] at h; cases h
theorem need_res (t : ByteArray) (b : Int) (p : Nat) (h : (need t b ⟨p, false⟩).f = false) : byteAt t p = b ∧ need t b ⟨p, false⟩ = ⟨p + 1, false⟩ := by
  have hl : look t ⟨p, false⟩ = byteAt t p := rfl
  unfold need at h ⊢
  rw [hl] at h ⊢
  by_cases hb : byteAt t p = b
  · rw [if_pos hb]; exact ⟨hb, rfl⟩
  · rw [if_neg hb] at h; cases h
def relCode (c : Int) : Int := if c = 61 then 0 else if c = 60 then 1 else 2
theorem relation_res (t : ByteArray) (p : Nat) (h : (relation t ⟨p, false⟩).2.f = false) : isRel (byteAt t p) = true ∧ relation t ⟨p, false⟩ = (relCode (byteAt t p), ⟨p + 1, false⟩) ∧ p < t.size := by
  have hl : look t ⟨p, false⟩ = byteAt t p := rfl
  have hlt : 0 ≤ byteAt t p → p < t.size := lt_of_byteAt
  unfold relation at h ⊢
  rw [hl] at h ⊢
  unfold relCode isRel
  by_cases h1 : byteAt t p = 61
  · rw [if_pos h1, if_pos h1]; exact ⟨by simp [h1], rfl, hlt (by omega)⟩
  · by_cases h2 : byteAt t p = 60
    · rw [if_neg h1, if_pos h2, if_neg h1, if_pos h2]; exact ⟨by simp [h2], rfl, hlt (by omega)⟩
    · by_cases h3 : byteAt t p = 62
      · rw [if_neg h1, if_neg h2, if_pos h3, if_neg h1, if_neg h2]; exact ⟨by simp [h3], rfl, hlt (by omega)⟩
      · rw [if_neg h1, if_neg h2, if_neg h3] at h; cases h
theorem index_res (t : ByteArray) (p : Nat) (h : (index t ⟨p, false⟩).2.f = false) : 48 ≤ byteAt t p ∧ byteAt t p ≤ 51 ∧ index t ⟨p, false⟩ = (byteAt t p - 48, ⟨p + 1, false⟩) := by
  have hl : look t ⟨p, false⟩ = byteAt t p := rfl
  unfold index at h ⊢
  rw [hl] at h ⊢
  by_cases h1 : 48 ≤ byteAt t p ∧ byteAt t p ≤ 51
  · rw [if_pos h1]; exact ⟨h1.1, h1.2, rfl⟩
  · rw [if_neg h1] at h; cases h
theorem relation_stays (t : ByteArray) (s : St) (h : s.f = true) : (relation t s).2.f = true := by
  have hl : look t s = -1 := by unfold look; rw [h]; rfl
  unfold relation; rw [hl]; simp
theorem bool_cases {b : Bool} {P : Prop} (h0 : b = false → P) (h1 : b = true → P) : P := by
  cases b
  · exact h0 rfl
  · exact h1 rfl

theorem short_res (t : ByteArray) (k : Int) (p : Nat) (h : (short t k ⟨p, false⟩).2.f = false) :
    short t k ⟨p, false⟩ = (⟨4, k, 0, 65535, relCode (byteAt t p), 0, numN t (p + 1) 4⟩, ⟨p + 5, false⟩) ∧ isRel (byteAt t p) = true ∧ p + 5 ≤ t.size ∧ 0 ≤ numN t (p + 1) 4 ∧ numN t (p + 1) 4 < 65536 := by
  have hw : (word t (relation t ⟨p, false⟩).2).2.f = false := h
  have h1 : (relation t ⟨p, false⟩).2.f = false := by
    cases hf : (relation t ⟨p, false⟩).2.f
    · rfl
    · rw [word_stays t _ hf] at hw; cases hw
  obtain ⟨a1, a2, a3⟩ := relation_res t p h1
  rw [a2] at hw
  obtain ⟨b1, b2, b3, b4⟩ := word_ok t (p + 1) hw
  refine ⟨?_, a1, by omega, b3, b4⟩
  unfold short
  rw [a2]
  simp only
  rw [b1]

/-- an argument that is compared -/
theorem argument_res (t : ByteArray) (p : Nat) (h : (argument t ⟨p, false⟩).2.f = false) : 48 ≤ byteAt t p ∧ byteAt t p ≤ 51 ∧
    ((byteAt t (p + 1) = 38 ∧ p + 19 ≤ t.size ∧ (0 ≤ numN t (p + 2) 4 ∧ numN t (p + 2) 4 < 65536) ∧ (0 ≤ numN t (p + 6) 4 ∧ numN t (p + 6) 4 < 65536) ∧ (0 ≤ numN t (p + 11) 4 ∧ numN t (p + 11) 4 < 65536) ∧ (0 ≤ numN t (p + 15) 4 ∧ numN t (p + 15) 4 < 65536) ∧
        argument t ⟨p, false⟩ = (⟨4, 4 + 4 * (byteAt t p - 48), numN t (p + 2) 4, numN t (p + 6) 4, 0, numN t (p + 11) 4, numN t (p + 15) 4⟩, ⟨p + 19, false⟩)) ∨
     (byteAt t (p + 1) ≠ 38 ∧ isRel (byteAt t (p + 1)) = true ∧ p + 10 ≤ t.size ∧ (0 ≤ numN t (p + 2) 4 ∧ numN t (p + 2) 4 < 65536) ∧ (0 ≤ numN t (p + 6) 4 ∧ numN t (p + 6) 4 < 65536) ∧
        argument t ⟨p, false⟩ = (⟨4, 4 + 4 * (byteAt t p - 48), 65535, 65535, relCode (byteAt t (p + 1)), numN t (p + 2) 4, numN t (p + 6) 4⟩, ⟨p + 10, false⟩))) := by
  have hr : argRest t (index t ⟨p, false⟩).2 = (argument t ⟨p, false⟩).2 := (argument_rest t ⟨p, false⟩).symm
  have hi : (index t ⟨p, false⟩).2.f = false := by
    cases hf : (index t ⟨p, false⟩).2.f
    · rfl
    · rw [← hr] at h
      have hl : look t (index t ⟨p, false⟩).2 = -1 := by unfold look; rw [hf]; rfl
      unfold argRest at h
      rw [hl, if_neg (by decide), value_stays t _ (relation_stays t _ hf)] at h
      cases h
  obtain ⟨a1, a2, a3⟩ := index_res t p hi
  refine ⟨a1, a2, ?_⟩
  rw [← hr] at h
  unfold argument
  rw [a3] at h ⊢
  have hl : look t ⟨p + 1, false⟩ = byteAt t (p + 1) := rfl
  unfold argRest at h
  simp only at h ⊢
  rw [hl] at h ⊢
  by_cases hc : byteAt t (p + 1) = 38
  · left
    rw [if_pos hc] at h ⊢
    have h2 : (value t ⟨p + 1 + 1, false⟩).2.f = false := by
      cases hf : (value t ⟨p + 1 + 1, false⟩).2.f
      · rfl
      · rw [value_stays t _ (need_stays t 61 (by omega) _ hf)] at h; cases h
    obtain ⟨b1, b2, b3, b4⟩ := value_ok t (p + 2) h2
    have b1' : value t ⟨p + 1 + 1, false⟩ = ((numN t (p + 2) 4, numN t (p + 2 + 4) 4), ⟨p + 2 + 8, false⟩) := b1
    rw [b1'] at h ⊢
    simp only at h ⊢
    have h3 : (need t 61 ⟨p + 2 + 8, false⟩).f = false := by
      cases hf : (need t 61 ⟨p + 2 + 8, false⟩).f
      · rfl
      · rw [value_stays t _ hf] at h; cases h
    obtain ⟨c1, c2⟩ := need_res t 61 (p + 2 + 8) h3
    rw [c2] at h ⊢
    obtain ⟨d1, d2, d3, d4⟩ := value_ok t (p + 2 + 8 + 1) h
    rw [d1]
    exact ⟨hc, by omega, b3, b4, d3, d4, rfl⟩
  · right
    rw [if_neg hc] at h ⊢
    have h2 : (relation t ⟨p + 1, false⟩).2.f = false := by
      cases hf : (relation t ⟨p + 1, false⟩).2.f
      · rfl
      · rw [value_stays t _ hf] at h; cases h
    obtain ⟨b1, b2, b3⟩ := relation_res t (p + 1) h2
    rw [b2] at h ⊢
    simp only at h ⊢
    obtain ⟨d1, d2, d3, d4⟩ := value_ok t (p + 1 + 1) h
    rw [d1]
    exact ⟨hc, b1, by omega, d3, d4, rfl⟩

/-- a relation, as the document's own text has it -/
def relB (c x y : Int) : Bool := if c = 61 then x == y else if c = 60 then decide (x < y) else decide (y < x)
theorem land_zero (a : Int) : land a 0 = 0 := by unfold land; simp
theorem land_full (a : Int) (h0 : 0 ≤ a) (h1 : a < 65536) : land a 65535 = a := by
  unfold land
  have : (65535 : Int).toNat = 2 ^ 16 - 1 := by decide
  rw [this, Nat.and_two_pow_sub_one_eq_mod]
  omega
theorem land_nonneg (a b : Int) : 0 ≤ land a b := by unfold land; omega
theorem land_lt (a b : Int) (h1 : b < 65536) (h0 : 0 ≤ b) : land a b < 65536 := by
  unfold land
  have := @Nat.and_le_right a.toNat b.toNat
  omega
theorem land_halves (hi lo mh ml : Int) (a0 : 0 ≤ hi) (b0 : 0 ≤ lo) (b1 : lo < 65536) (c0 : 0 ≤ mh) (d0 : 0 ≤ ml) (d1 : ml < 65536) :
    land (lo + 65536 * hi) (65536 * mh + ml) = 65536 * land hi mh + land lo ml := by
  obtain ⟨a, rfl⟩ := Int.eq_ofNat_of_zero_le a0
  obtain ⟨b, rfl⟩ := Int.eq_ofNat_of_zero_le b0
  obtain ⟨c, rfl⟩ := Int.eq_ofNat_of_zero_le c0
  obtain ⟨d, rfl⟩ := Int.eq_ofNat_of_zero_le d0
  unfold land
  have e1 : ((b : Int) + 65536 * (a : Int)).toNat = 2 ^ 16 * a + b := by omega
  have e2 : (65536 * (c : Int) + (d : Int)).toNat = 2 ^ 16 * c + d := by omega
  rw [e1, e2]
  simp only [Int.toNat_natCast]
  have hb : b < 2 ^ 16 := by omega
  have hd : d < 2 ^ 16 := by omega
  have key : (2 ^ 16 * a + b) &&& (2 ^ 16 * c + d) = 2 ^ 16 * (a &&& c) + (b &&& d) := by
    apply Nat.eq_of_testBit_eq
    intro i
    have hbd : b &&& d < 2 ^ 16 := Nat.and_lt_two_pow _ hd
    rw [Nat.testBit_and, Nat.testBit_two_pow_mul_add a hb, Nat.testBit_two_pow_mul_add c hd, Nat.testBit_two_pow_mul_add (a &&& c) hbd]
    split <;> simp [Nat.testBit_and]
  rw [key]
  omega

theorem cmp_short (r : ByteArray) (k c v : Int) (h0 : 0 ≤ wordAt r k) (h1 : wordAt r k < 65536) (hc : isRel c = true) : cmp r ⟨4, k, 0, 65535, relCode c, 0, v⟩ = relB c (wordAt r k) v := by
  unfold cmp relCode relB
  simp only [land_zero]
  rw [land_full _ h0 h1]
  unfold isRel at hc
  simp only [Bool.or_eq_true, beq_iff_eq] at hc
  rcases hc with (hc | hc) | hc
  · subst hc; simp [lss]; exact Bool.beq_eq_decide_eq _ _ |>.symm
  · subst hc; simp [lss]
  · subst hc; simp [lss]
theorem lss_num (h1 l1 h2 l2 : Int) (a : 0 ≤ l1) (b : l1 < 65536) (c : 0 ≤ l2) (d : l2 < 65536) : lss h1 l1 h2 l2 = decide (l1 + 65536 * h1 < l2 + 65536 * h2) := by
  unfold lss
  split
  · next h => subst h; congr 1; rw [eq_iff_iff]; omega
  · congr 1; rw [eq_iff_iff]; omega
theorem cmp_arg (r : ByteArray) (k c vh vl : Int) (h0 : 0 ≤ wordAt r k) (h1 : wordAt r k < 65536) (g0 : 0 ≤ wordAt r (k + 2)) (g1 : wordAt r (k + 2) < 65536) (v0 : 0 ≤ vl) (v1 : vl < 65536) (hc : isRel c = true) :
    cmp r ⟨4, k, 65535, 65535, relCode c, vh, vl⟩ = relB c (wordAt r k + 65536 * wordAt r (k + 2)) (65536 * vh + vl) := by
  unfold cmp relCode relB
  simp only
  rw [land_full _ h0 h1, land_full _ g0 g1, lss_num _ _ _ _ h0 h1 v0 v1, lss_num _ _ _ _ v0 v1 h0 h1]
  generalize wordAt r k = lo at *
  generalize wordAt r (k + 2) = hi at *
  unfold isRel at hc
  simp only [Bool.or_eq_true, beq_iff_eq] at hc
  rcases hc with (hc | hc) | hc
  · subst hc
    simp only [if_true]
    rw [Bool.eq_iff_iff]
    simp
    omega
  · subst hc
    simp
    omega
  · subst hc
    simp
    omega
theorem cmp_mask (r : ByteArray) (k mh ml wh wl : Int) (h0 : 0 ≤ wordAt r k) (h1 : wordAt r k < 65536) (g0 : 0 ≤ wordAt r (k + 2)) (m0 : 0 ≤ mh) (n0 : 0 ≤ ml) (n1 : ml < 65536) (v0 : 0 ≤ wl) (v1 : wl < 65536) :
    cmp r ⟨4, k, mh, ml, 0, wh, wl⟩ = (land (wordAt r k + 65536 * wordAt r (k + 2)) (65536 * mh + ml) == 65536 * wh + wl) := by
  rw [land_halves _ _ _ _ g0 h0 h1 m0 n0 n1]
  unfold cmp
  have l0 := land_nonneg (wordAt r k) ml
  have l1 := land_lt (wordAt r k) ml n1 n0
  simp only
  rw [if_neg (by decide), if_neg (by decide), Bool.eq_iff_iff]
  simp
  omega
end Sv
end Go.Proofs.Ytldongbimhngfaa
