/- Padded: codes with an instruction more. -/
import Derived.Test.YtldongbimhngfaaKc5
import Derived.Test.YtldongbimhngfaaKp7
import Derived.Laws.AppendOwn
namespace Go.Proofs.Ytldongbimhngfaa
open Go.RowKit
set_option linter.unusedVariables false
set_option linter.unusedSimpArgs false

theorem wrong_more (x : Sc.In) (left : Int) (h : Sc.wrongE x left = 0) : Sc.wrongE x (left + 1) = 0 := by
  unfold Sc.wrongE at h ⊢
  split at h
  · cases h
  · next h1 =>
    rw [if_neg h1]
    split at h
    · cases h
    · next h2 =>
      rw [if_neg h2]
      split at h
      · cases h
      · next h3 =>
        rw [if_neg h3]
        split at h
        · cases h
        · next h4 =>
          rw [if_neg]
          rintro (⟨q, q2⟩ | ⟨q, q2⟩)
          · exact h4 (Or.inl ⟨q, by omega⟩)
          · exact h4 (Or.inr ⟨q, by omega⟩)
def go0 : Sc.In := ⟨10, 0, 0, 0⟩
def retK (k : Int) : Sc.In := ⟨15, 0, 0, k⟩
theorem sound_ahead {L : List Sc.In} (h : SoundList L) (hn : L.length ≤ 1023) : SoundList (go0 :: L) := by
  obtain ⟨hf, hp, hw, hl⟩ := h
  refine ⟨⟨by simp; omega, fun i hi => ?_⟩, by simp, fun i hi => ?_, fun _ => ?_⟩
  · cases i with
    | zero => unfold InRng go0; simp
    | succ i => exact hf.2 i (by simpa using hi)
  · cases i with
    | zero =>
      show Sc.wrongE go0 _ = 0
      refine wrong_zero _ _ (by decide) (by decide) (by decide) (by decide) ?_
      rintro (⟨_, q⟩ | ⟨q, _⟩)
      · simp only [List.length_cons, go0] at q; omega
      · simp only [go0] at q; cases q
    | succ i =>
      have := hw i (by simpa using hi)
      simp only [List.getElem_cons_succ, List.length_cons]
      have e : L.length + 1 - (i + 1 + 1) = L.length - (i + 1) := by omega
      rw [e]; exact this
  · have e : (go0 :: L).length - 1 = (L.length - 1) + 1 := by simp; omega
    have := hl hp
    simp only [e, List.getElem_cons_succ]
    exact this
theorem sound_behind {L : List Sc.In} (h : SoundList L) (hn : L.length ≤ 1023) (k : Int) (k0 : 0 ≤ k) (k1 : k ≤ 65535) : SoundList (L ++ [retK k]) := by
  obtain ⟨hf, hp, hw, hl⟩ := h
  refine ⟨⟨by simp; omega, fun i hi => ?_⟩, by simp, fun i hi => ?_, fun _ => ?_⟩
  · by_cases q : i < L.length
    · rw [List.getElem_append_left q]; exact hf.2 i q
    · have : i = L.length := by simp at hi; omega
      subst this
      rw [List.getElem_append_right (by omega)]
      simp only [Nat.sub_self, List.getElem_cons_zero]
      unfold InRng retK; simp; omega
  · by_cases q : i < L.length
    · rw [List.getElem_append_left q]
      have := wrong_more _ _ (hw i q)
      have e : (((L ++ [retK k]).length - (i + 1) : Nat) : Int) = ((L.length - (i + 1) : Nat) : Int) + 1 := by simp; omega
      rw [e]; exact this
    · have : i = L.length := by simp at hi; omega
      subst this
      rw [List.getElem_append_right (by omega)]
      simp only [Nat.sub_self, List.getElem_cons_zero]
      refine wrong_zero _ _ (by simp [retK]) (by simp [retK]) ?_ (may_true _ (by simp [retK]) (by simp [retK]) (fun q => by simp [retK] at q) (fun q => by simp [retK] at q) (fun q => by simp [retK] at q) (fun q => by simp [retK] at q)) ?_
      · rintro (⟨_, q⟩ | ⟨q, _⟩) <;> simp [retK] at q
      · rintro (⟨q, _⟩ | ⟨q, _⟩)
        · simp [retK] at q
        · simp only [retK] at q; cases q
  · left
    simp [retK]
theorem runN_shift (r : ByteArray) : ∀ (g : Nat) (l : List Sc.In) (m : Sc.Mc) (s d : Int), Sc.runN r g l m (s + d) = ((Sc.runN r g l m s).1, (Sc.runN r g l m s).2 + d) := by
  intro g
  induction g with
  | zero => intro l m s d; rfl
  | succ g ih =>
    intro l m s d
    cases l with
    | nil => rfl
    | cons x rest =>
      simp only [Sc.runN]
      split
      · simp only [Prod.mk.injEq, true_and]; omega
      · split
        · simp only [Prod.mk.injEq, true_and]; omega
        · have e : s + d + 1 = (s + 1) + d := by omega
          rw [e, ih]
theorem run_ahead (r : ByteArray) (L : List Sc.In) : Sc.runL r (go0 :: L) = ((Sc.runL r L).1, (Sc.runL r L).2 + 1) := by
  have e := runN_shift r (L.length + 1) L ⟨0, 0, 0, 0, 0⟩ 0 1
  unfold Sc.runL
  rw [← e]
  rfl
theorem run_more (r : ByteArray) (hr : r.size = 20) (L M : List Sc.In) (hs : SoundList L) : ∀ (g g' k : Nat) (m : Sc.Mc) (s : Int), k < L.length → L.length + 1 ≤ k + g → L.length + 1 ≤ k + g' →
    Sc.runN r g' ((L ++ M).drop k) m s = Sc.runN r g (L.drop k) m s := by
  intro g
  induction g with
  | zero => intro g' k m s hk hg; omega
  | succ g ih =>
    intro g' k m s hk hg hg'
    cases g' with
    | zero => omega
    | succ g' =>
      have hk2 : k < (L ++ M).length := by simp; omega
      rw [List.drop_eq_getElem_cons hk, List.drop_eq_getElem_cons hk2, List.getElem_append_left hk]
      simp only [Sc.runN]
      split
      · rfl
      · next h15 =>
        split
        · rfl
        · next h16 =>
          have hl := hs.leads k hk m.a h15 h16
          rw [List.drop_drop, List.drop_drop]
          exact ih g' _ _ _ hl (by omega) (by omega)
theorem run_behind (r : ByteArray) (hr : r.size = 20) (L : List Sc.In) (hs : SoundList L) (k : Int) : Sc.runL r (L ++ [retK k]) = Sc.runL r L := by
  have := run_more r hr L [retK k] hs (L.length + 1) ((L ++ [retK k]).length + 1) 0 ⟨0, 0, 0, 0, 0⟩ 0 hs.2.1 (by omega) (by simp)
  simpa [Sc.runL] using this
theorem insCells_cons (x : Sc.In) (l : List Sc.In) : insCells (x :: l) = (inCells x).toList ++ insCells l := by simp [insCells]
theorem insCells_one (l : List Sc.In) : ∀ u ∈ insCells l, u.oneCell' = true := by
  intro u hu
  unfold insCells at hu
  rw [List.mem_flatMap] at hu
  obtain ⟨x, _, hx⟩ := hu
  simp [inCells] at hx
  rcases hx with rfl | rfl | rfl | rfl <;> rfl
end Go.Proofs.Ytldongbimhngfaa
