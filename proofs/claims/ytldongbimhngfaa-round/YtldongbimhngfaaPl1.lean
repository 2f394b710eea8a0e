/- Codes as lists: what is encoded is decoded; sound lists; runs of sound lists. -/
import Derived.Test.YtldongbimhngfaaGMd
import Derived.Test.YtldongbimhngfaaMd7
namespace Go.Proofs.Ytldongbimhngfaa
open Go.RowKit
set_option linter.unusedVariables false
set_option linter.unusedSimpArgs false

theorem flat_at (l : List Sc.In) : ∀ (i j : Nat) (h : i < l.length), j < 5 → (l.flatMap Sc.inB)[5 * i + j]? = (Sc.inB l[i])[j]? := by
  induction l with
  | nil => intro i j h; simp at h
  | cons x r ih =>
    intro i j h hj
    have hl : (Sc.inB x).length = 5 := rfl
    rw [List.flatMap_cons]
    cases i with
    | zero =>
      rw [List.getElem?_append_left (by omega)]
      simp
    | succ i =>
      rw [List.getElem?_append_right (by omega), hl]
      have : 5 * (i + 1) + j - 5 = 5 * i + j := by omega
      rw [this, ih i j (by simpa using h) hj]
      simp
theorem flat_len (l : List Sc.In) : (l.flatMap Sc.inB).length = 5 * l.length := by
  have := headB_len l l.length (Nat.le_refl _)
  rw [headB_all] at this; exact this
/-- the bytes of a list -/
def bytesOf (l : List Sc.In) : ByteArray := ⟨(l.flatMap Sc.inB).toArray⟩
theorem bytesOf_size (l : List Sc.In) : (bytesOf l).size = 5 * l.length := by
  show (l.flatMap Sc.inB).toArray.size = _
  rw [List.size_toArray, flat_len]
theorem bytesOf_at (l : List Sc.In) (i j : Nat) (h : i < l.length) (hj : j < 5) : Sv.byteAt (bytesOf l) (5 * i + j) = (((Sc.inB l[i])[j]'(by rw [inB_len]; exact hj)).toNat : Int) := by
  have hs := bytesOf_size l
  rw [byteAt_in (by omega)]
  have e : (bytesOf l)[5 * i + j]'(by omega) = (Sc.inB l[i])[j]'(by rw [inB_len]; exact hj) := by
    have h1 := flat_at l i j h hj
    rw [List.getElem?_eq_getElem (by rw [flat_len]; omega), List.getElem?_eq_getElem (by rw [inB_len]; exact hj)] at h1
    exact Option.some.inj h1
  rw [e]
theorem u8n (n : Nat) (h : n < 256) : n.toUInt8.toNat = n := by simp; omega
theorem inAt_bytesOf (l : List Sc.In) (i : Nat) (h : i < l.length) (hr : InRng l[i]) : Sc.inAt (bytesOf l) i = l[i] := by
  have b0 := bytesOf_at l i 0 h (by omega)
  have b1 := bytesOf_at l i 1 h (by omega)
  have b2 := bytesOf_at l i 2 h (by omega)
  have b3 := bytesOf_at l i 3 h (by omega)
  have b4 := bytesOf_at l i 4 h (by omega)
  generalize l[i] = x at *
  obtain ⟨op, t, f, k⟩ := x
  obtain ⟨h1, h2, h3, h4, h5, h6, h7, h8⟩ := hr
  simp only at h1 h2 h3 h4 h5 h6 h7 h8
  have c0 : ((Sc.inB ⟨op, t, f, k⟩)[0]'(by rw [inB_len]; omega)).toNat = op.toNat := u8n op.toNat (by omega)
  have c1 : ((Sc.inB ⟨op, t, f, k⟩)[1]'(by rw [inB_len]; omega)).toNat = t.toNat := u8n t.toNat (by omega)
  have c2 : ((Sc.inB ⟨op, t, f, k⟩)[2]'(by rw [inB_len]; omega)).toNat = f.toNat := u8n f.toNat (by omega)
  have c3 : ((Sc.inB ⟨op, t, f, k⟩)[3]'(by rw [inB_len]; omega)).toNat = k.toNat % 256 := u8n (k.toNat % 256) (by omega)
  have c4 : ((Sc.inB ⟨op, t, f, k⟩)[4]'(by rw [inB_len]; omega)).toNat = k.toNat / 256 := u8n (k.toNat / 256) (by omega)
  rw [c0] at b0
  rw [c1] at b1
  rw [c2] at b2
  rw [c3] at b3
  rw [c4] at b4
  have z0 : 5 * i + 0 = 5 * i := by omega
  rw [z0] at b0
  unfold Sc.inAt
  rw [b0, b1, b2, b3, b4]
  have f1 : (op.toNat : Int) = op := by omega
  have f2 : (t.toNat : Int) = t := by omega
  have f3 : (f.toNat : Int) = f := by omega
  have f4 : ((k.toNat % 256 : Nat) : Int) + 256 * ((k.toNat / 256 : Nat) : Int) = k := by omega
  rw [f1, f2, f3, f4]
/-- each instruction can be encoded -/
def Fits (l : List Sc.In) : Prop := l.length ≤ 1024 ∧ ∀ i (h : i < l.length), InRng l[i]
theorem Fits.encE {l : List Sc.In} (h : Fits l) : Sc.encE l = 0 := by
  unfold Sc.encE
  rw [if_neg (by have := h.1; omega), if_pos]
  rw [List.all_eq_true]
  intro x hx
  obtain ⟨i, hi, rfl⟩ := List.getElem_of_mem hx
  exact (inOk_iff _).2 (h.2 i hi)
theorem Fits.encB {l : List Sc.In} (h : Fits l) : (⟨(Sc.encB l).toArray⟩ : ByteArray) = bytesOf l := by
  unfold Sc.encB bytesOf; rw [if_pos h.encE]
theorem Fits.decE {l : List Sc.In} (h : Fits l) : Sc.decE (bytesOf l) = 0 := by
  have := bytesOf_size l
  have := h.1
  unfold Sc.decE; rw [if_neg (by omega), if_pos (by omega)]
theorem Fits.decL {l : List Sc.In} (h : Fits l) : Sc.decL (bytesOf l) = l := by
  unfold Sc.decL
  have hs := bytesOf_size l
  rw [if_pos h.decE]
  have e : (bytesOf l).size / 5 = l.length := by omega
  rw [e]
  refine List.ext_getElem (by rw [ins_len]) fun i h1 h2 => ?_
  rw [ins_get]
  exact inAt_bytesOf l i h2 (h.2 i h2)
/-- a sound list -/
def SoundList (l : List Sc.In) : Prop := Fits l ∧ 0 < l.length ∧ (∀ i (h : i < l.length), Sc.wrongE l[i] ((l.length - (i + 1) : Nat) : Int) = 0) ∧ ∀ (h : 0 < l.length), l[l.length - 1].op = 15 ∨ l[l.length - 1].op = 16
theorem soundN_zero (L : List Sc.In) : ∀ (l : List Sc.In) (i : Nat), (∀ j (h : j < l.length), Sc.wrongE l[j] ((l.length - (j + 1) : Nat) : Int) = 0) → Sc.soundN L i l = (0, 0) := by
  intro l
  induction l with
  | nil => intro i h; rfl
  | cons x r ih =>
    intro i h
    have h0 := h 0 (by simp)
    simp only [Sc.soundN]
    rw [if_pos (by simpa using h0)]
    exact ih (i + 1) (fun j hj => by have := h (j + 1) (by simpa using hj); simpa using this)
theorem SoundList.sound {l : List Sc.In} (h : SoundList l) : Sc.sound (bytesOf l) = (0, 0) := by
  obtain ⟨hf, hp, hw, hl⟩ := h
  unfold Sc.sound
  rw [if_pos hf.decE, hf.decL]
  unfold Sc.soundL
  rw [if_neg (by omega), soundN_zero l l 0 hw, if_pos rfl, lastOp_get l hp, if_pos (hl hp)]
theorem SoundList.doOk {l : List Sc.In} (h : SoundList l) : ∀ i (hi : i < l.length), DoOk l[i] := fun i hi => doOk_of _ _ (h.1.2 i hi) (h.2.2.1 i hi)
/-- where a sound list goes on there is an instruction -/
def Leads (L : List Sc.In) : Prop := ∀ j (h : j < L.length) (a : Int), L[j].op ≠ 15 → L[j].op ≠ 16 → j + 1 + (Sc.hop L[j] a).toNat < L.length
theorem SoundList.leads {l : List Sc.In} (h : SoundList l) : Leads l := by
  obtain ⟨hf, hp, hw, hlast⟩ := h
  intro j hj a h15 h16
  have hx := hf.2 j hj
  have hwj := hw j hj
  have hl : j + 1 < l.length := by
    have h1 := hlast hp
    by_cases q : j = l.length - 1
    · subst q
      rcases h1 with h1 | h1
      · exact absurd h1 h15
      · exact absurd h1 h16
    · omega
  generalize l[j] = X at *
  obtain ⟨op, t, f, k⟩ := X
  obtain ⟨x1, x2, x3, x4, x5, x6, x7, x8⟩ := hx
  simp only at h15 h16 x1 x2 x3 x4 x5 x6 x7 x8
  have hj2 : ¬ ((op = 10 ∧ ((l.length - (j + 1) : Nat) : Int) ≤ k) ∨ (Sc.isTest op = true ∧ (((l.length - (j + 1) : Nat) : Int) ≤ t ∨ ((l.length - (j + 1) : Nat) : Int) ≤ f))) := by
    intro q
    unfold Sc.wrongE at hwj
    simp only at hwj
    split at hwj
    · cases hwj
    · split at hwj
      · cases hwj
      · split at hwj
        · cases hwj
        · first | cases hwj | (rw [if_pos q] at hwj; cases hwj)
  unfold Sc.hop
  simp only
  by_cases h10 : op = 10
  · rw [if_pos h10]
    have : ¬ (((l.length - (j + 1) : Nat) : Int) ≤ k) := fun q => hj2 (Or.inl ⟨h10, q⟩)
    omega
  · rw [if_neg h10]
    by_cases ht : Sc.isTest op = true
    · rw [if_pos ht]
      have h1 : ¬ (((l.length - (j + 1) : Nat) : Int) ≤ t) := fun q => hj2 (Or.inr ⟨ht, Or.inl q⟩)
      have h2 : ¬ (((l.length - (j + 1) : Nat) : Int) ≤ f) := fun q => hj2 (Or.inr ⟨ht, Or.inr q⟩)
      split <;> omega
    · rw [if_neg ht]; omega
/-- what a run of a sound list answers -/
theorem runN_rng (r : ByteArray) (hr : r.size = 20) (L : List Sc.In) (hs : SoundList L) : ∀ (g k : Nat) (m : Sc.Mc) (s : Int), k < L.length → L.length + 1 ≤ k + g → McOk m →
    0 ≤ (Sc.runN r g (L.drop k) m s).1 ∧ (Sc.runN r g (L.drop k) m s).1 ≤ 65535 ∧ s + 1 ≤ (Sc.runN r g (L.drop k) m s).2 ∧ (Sc.runN r g (L.drop k) m s).2 ≤ s + ((L.length - k : Nat) : Int) := by
  intro g
  induction g with
  | zero => intro k m s hk hg hm; omega
  | succ g ih =>
    intro k m s hk hg hm
    rw [List.drop_eq_getElem_cons hk]
    have hx := hs.doOk k hk
    have hl := hs.leads k hk m.a
    simp only [Sc.runN]
    split
    · have := hx.1; unfold InRng at this; simp only; omega
    · next h15 =>
      split
      · unfold McOk at hm; simp only; omega
      · next h16 =>
        have hl2 := hl h15 h16
        rw [List.drop_drop]
        have e : (Sc.hop L[k] m.a).toNat + (k + 1) = k + 1 + (Sc.hop L[k] m.a).toNat := by omega
        have e2 : k + 1 + (Sc.hop L[k] m.a).toNat = k + 1 + (Sc.hop L[k] m.a).toNat := rfl
        have := ih (k + 1 + (Sc.hop L[k] m.a).toNat) (Sc.stepM r L[k] m) (s + 1) hl2 (by omega) (stepM_rng r L[k] m hr hx hm)
        omega
theorem runL_rng (r : ByteArray) (hr : r.size = 20) (L : List Sc.In) (hs : SoundList L) : 0 ≤ (Sc.runL r L).1 ∧ (Sc.runL r L).1 ≤ 65535 ∧ 1 ≤ (Sc.runL r L).2 ∧ (Sc.runL r L).2 ≤ (L.length : Int) := by
  have := runN_rng r hr L hs (L.length + 1) 0 ⟨0, 0, 0, 0, 0⟩ 0 hs.2.1 (by omega) (by unfold McOk; simp)
  unfold Sc.runL
  simp only [List.drop_zero] at this
  omega
theorem SoundList.runC {l : List Sc.In} (h : SoundList l) (r : ByteArray) (hr : r.size = 20) : Sc.runC (bytesOf l) r = ((Sc.runL r l).1, (Sc.runL r l).2, 0) := by
  unfold Sc.runC
  rw [h.sound, if_pos rfl, if_pos hr, h.1.decL]
end Go.Proofs.Ytldongbimhngfaa
