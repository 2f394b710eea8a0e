/- sievekeep: Policy; Same and Agreed. -/
import Derived.Test.YtldongbimhngfaaKu1
import Derived.Test.YtldongbimhngfaaGCw
namespace Go.Proofs.Ytldongbimhngfaa
open Go.RowKit
set_option linter.unusedVariables false
set_option linter.unusedSimpArgs false

theorem policy_bd : Bd 240 [80] [] 0 := ⟨Or.inr ⟨rfl, by simp [B0Ok]⟩, by simp, by decide⟩
set_option maxHeartbeats 1000000 in
theorem policyM_any (w : World) (la : Option Addr) (ll lc : Nat) (z : Nat → Int) (hR : RawRow w w.heap.size la ll z) (hll : ll ≤ maxLen) :
    Calls Try.prog 36 #[.slice la ll lc] w fun e w' => ∃ (T : ByteArray) (n : Nat), e = .returned (.string T) ∧ Der n [80] T.data.toList ∧ T.size ≤ 516 ∧ w.grownBy w' none := by
  have hM := made_any w la ll lc z ⟨#[80]⟩ 240 0 hR hll (by omega) policy_bd
  clear hR
  go_enter Try.func36, Try.ntmps36
  go_wp2_with fail
  refine hM.mono ?_
  rintro e w1 ⟨T, n, rfl, hD, hT, hg⟩
  clear hM
  have HD := hid hD
  clear hD
  go_wp2_with fail
  go_ret
  exact ⟨T, n, rfl, HD.out, by omega, hg⟩
/-- a policy that is made is one -/
theorem made_check {T : ByteArray} {n : Nat} (h : Der n [80] T.data.toList) (hs : T.size ≤ 516) : (Sv.check T).1 = 0 := by
  obtain ⟨R, d, hP⟩ := der_pol n n _ (Nat.le_refl _) h
  have hj := judge_of (t := T) (r := ⟨#[0, 0, 0, 0, 0, 0, 0, 0, 0, 0, 0, 0, 0, 0, 0, 0, 0, 0, 0, 0]⟩) rfl hP (by omega) rfl
  unfold Sv.judge at hj
  unfold Sv.check
  rw [if_neg (by omega)] at hj ⊢
  split at hj
  · simp at hj
  · next q => rw [if_neg q]
/-- what Compile makes of it, and what that judges -/
theorem made_comp (T P : ByteArray) (h : (Sv.check T).1 = 0) (hp : P.size ≤ 12) : cmpErr T P = 0 ∧ cmpOut T P = bytesOf (Sc.impL P (compL T)) ∧ SoundList (compL T) ∧ Better1 (compL T) (Sc.impL P (compL T)) := by
  have hS := compL_sound h
  have hI := imp_bytes (compL T) P hS hp
  refine ⟨?_, ?_, hS, impN_better P hS P.size⟩
  · unfold cmpErr; rw [if_pos h, if_neg (by omega)]
  · unfold cmpOut; rw [if_pos h]; exact hI.2
theorem made_judge (T r : ByteArray) (h : (Sv.check T).1 = 0) (hr : r.size = 20) : Sv.judge T r = ((Sc.runL r (compL T)).1, 0) := by
  obtain ⟨hs, hf⟩ := check_zero h
  rw [(compL_ok T hs hf).2 r hr]
  unfold Sv.judge
  rw [if_neg (by omega), if_neg (by rw [hf]; decide), if_pos hr]
set_option maxRecDepth 100000 in
set_option maxHeartbeats 4000000 in
theorem same_walk (w : World) (la lp lr : Option Addr) (na ca np cp nr cr : Nat) (za zp zr : Nat → Int) (hA : RawRow w w.heap.size la na za) (hP : RawRow w w.heap.size lp np zp) (hR : RawRow w w.heap.size lr nr zr) (ma : na ≤ maxLen) (mp : np ≤ maxLen) (mr : nr ≤ maxLen) :
    Calls Try.prog 12 #[.slice la na ca, .slice lp np cp, .slice lr nr cr] w fun e w' => e = .returned (.bool true) ∧ Below w.heap.size w w' := by
  have hC := hid (policyM_any w la na ca za hA ma)
  have HR := hid hR
  have HP := hid hP
  clear hA hR hP
  go_enter Try.func12, Try.ntmps12
  go_wp2_with fail
  refine hC.out.mono ?_
  rintro e w1 ⟨T, n, rfl, hD, hT, hg1⟩
  clear hC
  have hck := made_check hD hT
  have HG1 := hid hg1
  have hRc := hid (record_any w1 lr nr cr zr (raw_on HR.out (Nat.le_refl _) hg1) mr)
  clear hg1 hD HR
  go_wp2_with fail
  refine hRc.out.mono ?_
  rintro e w2 ⟨rfl, hg2⟩
  have HG2 := hid (gb_trans HG1.out hg2)
  have hr20 := rec_size nr zr
  generalize (⟨(recB nr zr 10).toArray⟩ : ByteArray) = r at *
  have hJ := hid (judge_at w2 T r _ (made_judge T r hck hr20) (by omega) hr20)
  clear hRc hg2 HG1
  generalize hV : (Sc.runL r (compL T)).1 = V at *
  go_wp2_with fail
  refine hJ.out.mono ?_
  rintro e w3 ⟨rfl, hg3⟩
  have HG3 := hid (gb_trans HG2.out hg3)
  have hPs := hid (kPasses_any w3 lp np cp zp (raw_on HP.out (Nat.le_refl _) HG3.out) mp 12 (Nat.le_refl _))
  clear hJ hg3 HG2 HP
  go_wp2_with fail
  refine hPs.out.mono ?_
  rintro e w4 ⟨P, rfl, hp12, rfl⟩
  clear hPs
  obtain ⟨c1, c2, c3, c4⟩ := made_comp T P hck hp12
  have hCo := hid (compile_any w4 T P (by unfold maxLen; omega) (by unfold maxLen; omega))
  rw [c1, c2] at hCo
  have hN := hid (fun w => kRan_any w (Sc.impL P (compL T)) r c4.sound hr20)
  have hrl := (c4.runL c3 r).1
  rw [hV] at hrl
  generalize Sc.runL r (Sc.impL P (compL T)) = X at *
  generalize bytesOf (Sc.impL P (compL T)) = S at *
  obtain ⟨x1, x2⟩ := X
  simp only at hN hrl
  subst hrl
  clear c1 c2 c3 c4 hV hck hr20
  go_wp2_with fail
  refine hCo.out.mono ?_
  rintro e w5 ⟨rfl, hg5⟩
  have HG5 := hid (gb_trans HG3.out hg5)
  clear hCo hg5 HG3
  go_wp2_with fail
  refine (hN.out _).mono ?_
  rintro e w6 ⟨rfl, hg6⟩
  have HG6 := hid (gb_trans HG5.out hg6)
  clear hN hg6 HG5
  go_wp2_with fail
  go_ret
  exact ⟨by simp, gb_below HG6.out⟩
set_option maxRecDepth 100000 in
set_option maxHeartbeats 4000000 in
theorem agreed_walk (w : World) (la lp lq lr : Option Addr) (na ca np cp nq cq nr cr : Nat) (za zp zq zr : Nat → Int) (hA : RawRow w w.heap.size la na za) (hP : RawRow w w.heap.size lp np zp) (hQ : RawRow w w.heap.size lq nq zq) (hR : RawRow w w.heap.size lr nr zr) (ma : na ≤ maxLen) (mp : np ≤ maxLen) (mq : nq ≤ maxLen) (mr : nr ≤ maxLen) :
    Calls Try.prog 13 #[.slice la na ca, .slice lp np cp, .slice lq nq cq, .slice lr nr cr] w fun e w' => e = .returned (.bool true) ∧ Below w.heap.size w w' := by
  have hC := hid (policyM_any w la na ca za hA ma)
  have HR := hid hR
  have HP := hid hP
  have HQ := hid hQ
  clear hA hR hP hQ
  go_enter Try.func13, Try.ntmps13
  go_wp2_with fail
  refine hC.out.mono ?_
  rintro e w1 ⟨T, n, rfl, hD, hT, hg1⟩
  clear hC
  have hck := made_check hD hT
  have HG1 := hid hg1
  have hRc := hid (record_any w1 lr nr cr zr (raw_on HR.out (Nat.le_refl _) hg1) mr)
  clear hg1 hD HR
  go_wp2_with fail
  refine hRc.out.mono ?_
  rintro e w2 ⟨rfl, hg2⟩
  have HG2 := hid (gb_trans HG1.out hg2)
  have hr20 := rec_size nr zr
  generalize (⟨(recB nr zr 10).toArray⟩ : ByteArray) = r at *
  have hPs := hid (kPasses_any w2 lp np cp zp (raw_on HP.out (Nat.le_refl _) HG2.out) mp 12 (Nat.le_refl _))
  clear hRc hg2 HG1 HP
  go_wp2_with fail
  refine hPs.out.mono ?_
  rintro e w3 ⟨P, rfl, hp12, rfl⟩
  clear hPs
  obtain ⟨c1, c2, c3, c4⟩ := made_comp T P hck hp12
  have hCk := hid hck
  have hCo0 := hid (fun w => compile_any w T ⟨#[]⟩ (by unfold maxLen; omega) (by unfold maxLen; show 0 ≤ _; omega))
  have e0 : cmpErr T ⟨#[]⟩ = 0 := (made_comp T ⟨#[]⟩ hck (by show 0 ≤ 12; omega)).1
  rw [e0, cmpOut_plain T hck] at hCo0
  have hCo1 := hid (fun w => compile_any w T P (by unfold maxLen; omega) (by unfold maxLen; omega))
  rw [c1, c2] at hCo1
  have hIm := hid (fun w => kImproved_any w (compL T) P c3 hp12)
  have hN0 := hid (fun w => kRan_any w (compL T) r c3 hr20)
  have hN1 := hid (fun w => kRan_any w (Sc.impL P (compL T)) r c4.sound hr20)
  have hrl := c4.runL c3 r
  have C3 := hid c3
  have hr2 := hid hr20
  generalize bytesOf (Sc.impL P (compL T)) = S1 at *
  generalize Sc.runL r (Sc.impL P (compL T)) = X at *
  obtain ⟨x1, x2⟩ := X
  simp only at hN1 hrl
  clear c1 c2 c3 c4 hck e0 hr20
  have hQs := hid (fun w' (hg : w3.grownBy w' none) => kPasses_any w' lq nq cq zq (raw_on (raw_on HQ.out (Nat.le_refl _) HG2.out) (Nat.le_refl _) hg) mq 12 (Nat.le_refl _))
  clear HQ
  go_wp2_with fail
  refine (hCo0.out _).mono ?_
  rintro e w4 ⟨rfl, hg4⟩
  have G4 := hid hg4
  clear hCo0 hg4
  go_wp2_with fail
  refine (hCo1.out _).mono ?_
  rintro e w5 ⟨rfl, hg5⟩
  have G5 := hid (gb_trans G4.out hg5)
  clear hCo1 hg5 G4
  go_wp2_with fail
  refine (hQs.out _ G5.out).mono ?_
  rintro e w6 ⟨Q, rfl, hq12, rfl⟩
  clear hQs
  obtain ⟨c1, c2, c3, c4⟩ := made_comp T Q hCk.out hq12
  have hCo2 := hid (fun w => compile_any w T Q (by unfold maxLen; omega) (by unfold maxLen; omega))
  rw [c1, c2] at hCo2
  have hN2 := hid (fun w => kRan_any w (Sc.impL Q (compL T)) r c4.sound hr2.out)
  have hrl2 := (c4.runL c3 r).1
  generalize bytesOf (Sc.impL Q (compL T)) = S2 at *
  generalize bytesOf (compL T) = S0 at *
  generalize Sc.runL r (Sc.impL Q (compL T)) = Y at *
  generalize Sc.runL r (compL T) = Z at *
  obtain ⟨y1, y2⟩ := Y
  obtain ⟨z1, z2⟩ := Z
  simp only at hN0 hN2 hrl hrl2
  obtain ⟨e1, e2⟩ := hrl
  subst e1
  subst hrl2
  have d1 : decide (x2 ≤ z2) = true := by simp [e2]
  have HG5 := hid (gb_trans HG2.out G5.out)
  clear c1 c2 c3 c4 C3 hr2 hCk G5 HG2
  go_wp2_with fail
  refine (hCo2.out _).mono ?_
  rintro e w7 ⟨rfl, hg7⟩
  have G7 := hid (gb_trans HG5.out hg7)
  clear hCo2 hg7 HG5
  go_wp2_with fail
  refine (hIm.out _).mono ?_
  rintro e w8 ⟨rfl, hg8⟩
  have G8 := hid (gb_trans G7.out hg8)
  clear hIm hg8 G7
  go_wp2_with fail
  refine (hN0.out _).mono ?_
  rintro e w9 ⟨rfl, hg9⟩
  have G9 := hid (gb_trans G8.out hg9)
  clear hN0 hg9 G8
  go_wp2_with fail
  refine (hN1.out _).mono ?_
  rintro e wa ⟨rfl, hga⟩
  have Ga := hid (gb_trans G9.out hga)
  clear hN1 hga G9
  go_wp2_with fail
  refine (hN2.out _).mono ?_
  rintro e wb ⟨rfl, hgb⟩
  have Gb := hid (gb_trans Ga.out hgb)
  clear hN2 hgb Ga
  go_wp2_with fail
  go_ret
  exact ⟨by simp, gb_below Gb.out⟩
end Go.Proofs.Ytldongbimhngfaa
