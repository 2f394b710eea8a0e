/- What a sound code decodes to is fine. -/
import Derived.Test.YtpamlgdopmjooaaGreatGDna
import Derived.Test.YtpamlgdopmjooaaGreatCd5
namespace Go.Proofs.YtpamlgdopmjooaaGreat
open Go.RowKit
set_option linter.unusedVariables false
set_option linter.unusedSimpArgs false

theorem wrong_no (x : Sc.In) (left : Int) (h : Sc.wrongE x left = 0) : Sc.mayB x = true ∧ (x.op = 10 → x.k < left) ∧ (Sc.isTest x.op = true → x.t < left ∧ x.f < left) := by
  unfold Sc.wrongE at h
  split at h
  · cases h
  · split at h
    · cases h
    · split at h
      · cases h
      · next hm =>
        split at h
        · cases h
        · next hl =>
          refine ⟨by simpa using hm, fun q => ?_, fun q => ⟨?_, ?_⟩⟩
          · by_cases z : left ≤ x.k
            · exact absurd (Or.inl ⟨q, z⟩) hl
            · omega
          · by_cases z : left ≤ x.t
            · exact absurd (Or.inr ⟨q, Or.inl z⟩) hl
            · omega
          · by_cases z : left ≤ x.f
            · exact absurd (Or.inr ⟨q, Or.inr z⟩) hl
            · omega
theorem fine_of (c : ByteArray) (h : (Sc.sound c).1 = 0) : Fine (Sc.decL c) ∧ 0 < (Sc.decL c).length := by
  obtain ⟨hE, hw⟩ := sound_steps c h
  have hgo := goesOn_of c h
  have hpos : 0 < (Sc.decL c).length := by
    by_cases q : (Sc.decL c).length = 0
    · unfold Sc.sound at h
      rw [if_pos hE] at h
      unfold Sc.soundL at h
      rw [if_pos q] at h
      cases h
    · omega
  refine ⟨⟨decL_le c, fun i hi => decL_rng c i hi, fun i hi q => ?_, fun i hi q => ?_, fun i hi q1 q2 => ?_, fun i hi q => ?_, fun i hi q => ?_⟩, hpos⟩
  · have := (wrong_no _ _ (hw i hi)).2.1 q
    have hr := decL_rng c i hi
    unfold InRng at hr
    omega
  · have := (wrong_no _ _ (hw i hi)).2.2 q
    have hr := decL_rng c i hi
    unfold InRng at hr
    omega
  · have := hgo i hi 0 q1 q2
    omega
  · have := (wrong_no _ _ (hw i hi)).1
    unfold Sc.mayB at this
    rw [q] at this
    simp at this
    omega
  · have := (wrong_no _ _ (hw i hi)).1
    unfold Sc.mayB at this
    rw [q] at this
    simp at this
    omega
end Go.Proofs.YtpamlgdopmjooaaGreat
