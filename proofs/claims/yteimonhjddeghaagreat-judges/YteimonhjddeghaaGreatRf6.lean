import Derived.Test.YteimonhjddeghaaGreatRf5
import Derived.Test.YteimonhjddeghaaGreatLw2
namespace Go.Proofs.YteimonhjddeghaaGreat
open Go.RowKit
set_option linter.unusedVariables false
set_option linter.unusedSimpArgs false

/-- rules and the default are read from p on, unfailed: the verdict -/
structure RD (t r : ByteArray) (n p : Nat) (v : Int) : Prop where
  le : p ≤ t.size
  fuel : t.size + 1 ≤ p + n
  okk : (Sv.word t (Sv.need t 46 (Sv.rules t n ⟨p, false⟩).2)).2.f = false
  ver : v = Sv.verdict r (Sv.word t (Sv.need t 46 (Sv.rules t n ⟨p, false⟩).2)).1 (Sv.rules t n ⟨p, false⟩).1

theorem need_f {t : ByteArray} {b : Int} (hb : 0 ≤ b) {s : Sv.St} (h : (Sv.need t b s).f = false) : s.f = false := by
  cases hf : s.f
  · rfl
  · rw [Sv.need_stays t b hb s hf] at h; cases h
theorem word_f {t : ByteArray} {s : Sv.St} (h : (Sv.word t s).2.f = false) : s.f = false := by
  cases hf : s.f
  · rfl
  · rw [Sv.word_stays t s hf] at h; cases h
theorem st_eta {s : Sv.St} (h : s.f = false) : s = ⟨s.p, false⟩ := by obtain ⟨p, f⟩ := s; simp only at h; rw [h]

/-- at a question mark: a condition, then the rest -/
theorem RD.go {t r : ByteArray} {n p : Nat} {v : Int} (h : RD t r n p v) (hc : Sv.byteAt t p = 63) :
    ∃ n' ts q, p + 1 ≤ t.size ∧ CD t (t.size + 1) 1 (p + 1) ts q ∧ p + 1 ≤ q ∧ q + 5 ≤ t.size ∧ RD t r n' (q + 5) (Sv.verdict r (Sv.word t (Sv.need t 46 (Sv.rules t n' ⟨q + 5, false⟩).2)).1 (Sv.rules t n' ⟨q + 5, false⟩).1) ∧
      v = (if Sv.holds r ts = true then Sv.numN t (q + 1) 4 else Sv.verdict r (Sv.word t (Sv.need t 46 (Sv.rules t n' ⟨q + 5, false⟩).2)).1 (Sv.rules t n' ⟨q + 5, false⟩).1) := by
  obtain ⟨n', rfl⟩ : ∃ n', n = n' + 1 := ⟨n - 1, by have := h.le; have := h.fuel; omega⟩
  have hlk : Sv.look t ⟨p, false⟩ = 63 := hc
  have hlt : p < t.size := Sv.lt_of_byteAt (by omega)
  have hgo := rules_go t n' ⟨p, false⟩ hlk
  have hok := h.okk
  have hver := h.ver
  rw [hgo] at hok hver
  simp only at hok hver
  have hRp := Sv_rule_p t ⟨p + 1, false⟩ hlt
  have hf1 := need_f (by omega) (word_f hok)
  have hf2 : (Sv.rule t ⟨p + 1, false⟩).2.f = false := by
    cases hf : (Sv.rule t ⟨p + 1, false⟩).2.f
    · rfl
    · rw [Sv.rules_keep t n' _ hf] at hf1
      simp only at hf1
      rw [hf] at hf1; cases hf1
  have hw : (Sv.word t (Sv.need t 58 (Sv.condition t ⟨p + 1, false⟩).2)).2.f = false := hf2
  have hn := word_f hw
  have hcf := need_f (by omega) hn
  have hcp := Sv_condition_p t ⟨p + 1, false⟩ hlt
  have he := st_eta hcf
  generalize hC : Sv.condition t ⟨p + 1, false⟩ = C at *
  obtain ⟨ts, ⟨q, f⟩⟩ := C
  simp only at hcf hcp hn hw he
  subst hcf
  obtain ⟨_, hn2⟩ := Sv.need_res t 58 q hn
  rw [hn2] at hw
  obtain ⟨hw1, hw2, hw3, hw4⟩ := Sv.word_ok t (q + 1) hw
  have hrule : Sv.rule t ⟨p + 1, false⟩ = ((ts, Sv.numN t (q + 1) 4), ⟨q + 5, false⟩) := by
    unfold Sv.rule
    rw [hC]
    simp only
    rw [hn2, hw1]
  rw [hrule] at hok hver
  simp only at hok hver
  refine ⟨n', ts, q, hlt, ⟨hC, hlt, by omega⟩, hcp.2, by omega, ⟨by omega, ?_, hok, rfl⟩, ?_⟩
  · have := h.fuel; have := hcp.2; omega
  · rw [hver]; rfl

/-- at a full stop: the default -/
theorem RD.stop {t r : ByteArray} {n p : Nat} {v : Int} (h : RD t r n p v) (hc : Sv.byteAt t p ≠ 63) : v = Sv.numN t (p + 1) 4 ∧ p + 5 ≤ t.size ∧ p < t.size := by
  have hlk : Sv.look t ⟨p, false⟩ ≠ 63 := hc
  have hst := rules_stop t n ⟨p, false⟩ hlk
  have hok := h.okk
  have hver := h.ver
  rw [hst] at hok hver
  simp only at hok hver
  obtain ⟨hb, hn2⟩ := Sv.need_res t 46 p (word_f hok)
  rw [hn2] at hok hver
  obtain ⟨hw1, hw2, hw3, hw4⟩ := Sv.word_ok t (p + 1) hok
  rw [hw1] at hver
  exact ⟨hver, by omega, by omega⟩

set_option maxRecDepth 100000 in
set_option maxHeartbeats 2000000 in
theorem refJudge_any (w : World) (t r : ByteArray) (ht : t.size ≤ maxLen) (hm : r.size ≤ maxLen) :
    Calls Tryz.prog 21 #[.string t, .string r] w fun e w' => e = .returned (.tuple #[.int .i64 (Sv.judge t r).1, .int .i64 (Sv.judge t r).2]) ∧ w' = w := by
  have hC := fun w => refCheck_any w t ht
  rw [refCheck_eq] at hC
  unfold maxLen at hm
  by_cases hl : 600 < t.size
  · have hv : Hid (Sv.judge t r = (0, 1)) := by unfold Hid Sv.judge; rw [if_pos hl]
    have hck : Sv.check t = (1, 0) := by unfold Sv.check; rw [if_pos hl]
    rw [hck] at hC
    clear hck hl ht
    go_enter Tryz.func21, Tryz.ntmps21
    go_wp2_with fail
    refine (hC _).mono ?_
    rintro e w1 ⟨rfl, hw⟩
    subst hw
    clear hC
    go_wp2_with fail
    go_ret2
    rw [hv.out]
    exact ⟨rfl, rfl⟩
  · have hs : t.size ≤ 600 := by omega
    by_cases hf : (Sv.policy t ⟨0, false⟩).2.f = true
    · have hv : Hid (Sv.judge t r = (0, 2)) := by unfold Hid Sv.judge; rw [if_neg hl, if_pos hf]
      have hck : Sv.check t = (2, ((Sv.policy t ⟨0, false⟩).2.p : Int)) := by unfold Sv.check; rw [if_neg hl, if_pos hf]
      rw [hck] at hC
      clear hck hl hf ht
      go_enter Tryz.func21, Tryz.ntmps21
      go_wp2_with fail
      refine (hC _).mono ?_
      rintro e w1 ⟨rfl, hw⟩
      subst hw
      clear hC
      go_wp2_with fail
      go_ret2
      rw [hv.out]
      exact ⟨rfl, rfl⟩
    · have hf' : (Sv.policy t ⟨0, false⟩).2.f = false := by simpa using hf
      have hck : Sv.check t = (0, 0) := by unfold Sv.check; rw [if_neg hl, if_neg hf]
      rw [hck] at hC
      have hv0 : Sv.judge t r = if r.size = 20 then (Sv.verdict r (Sv.policy t ⟨0, false⟩).1.2 (Sv.policy t ⟨0, false⟩).1.1, 0) else (0, 9) := by
        unfold Sv.judge; rw [if_neg hl, if_neg hf]
      by_cases hr : r.size = 20
      · have hv : Hid (Sv.judge t r = (Sv.verdict r (Sv.policy t ⟨0, false⟩).1.2 (Sv.policy t ⟨0, false⟩).1.1, 0)) := by unfold Hid; rw [hv0, if_pos hr]
        have hR : RD t r (t.size + 1) 0 (Sv.verdict r (Sv.policy t ⟨0, false⟩).1.2 (Sv.policy t ⟨0, false⟩).1.1) := by
          refine ⟨Nat.zero_le _, by omega, ?_, rfl⟩
          have hx : (Sv.needEnd t (Sv.word t (Sv.need t 46 (Sv.rules t (t.size + 1) ⟨0, false⟩).2)).2).f = false := hf'
          unfold Sv.needEnd at hx
          split at hx
          · cases hx
          · exact hx
        generalize Sv.verdict r (Sv.policy t ⟨0, false⟩).1.2 (Sv.policy t ⟨0, false⟩).1.1 = V at *
        have hne : ((r.size : Int) != 20) = false := by simp; omega
        have Hr := hid hr
        have HR := hid hR
        clear hck hl hf hf' hv0 hr hR ht hm
        go_enter Tryz.func21, Tryz.ntmps21
        go_wp2_with fail
        refine (hC _).mono ?_
        rintro e w1 ⟨rfl, hw⟩
        subst hw
        clear hC
        go_wp2_with fail
        go_loopg [8] (t.size + 1) (fun g i wr => ∃ (n p : Nat), i = .int .i64 p ∧ wr = w1 ∧ t.size + 1 ≤ p + g ∧ RD t r n p V)
        case atStart => exact ⟨t.size + 1, 0, rfl, rfl, by omega, HR.out⟩
        case round =>
          obtain ⟨n, p, rfl, hw, hgk, hRD⟩ := hrel
          subst hw
          have hRD' := hid hRD
          have hlt : p < t.size := by
            by_cases hc : Sv.byteAt t p = 63
            · exact Sv.lt_of_byteAt (by omega)
            · exact (hRD.stop hc).2.2
          have B0 : ((t[p]'hlt).toNat : Int) = Sv.byteAt t p := (byteAt_in hlt).symm
          have e0 : ((p : Int)).toNat = p := by omega
          have e00 : (p : Int) < (t.size : Int) := by omega
          clear hRD
          by_cases hc : Sv.byteAt t p = 63
          · obtain ⟨n', ts, q, hp1, hcd, hpq, hq5, hRD2, hV⟩ := hRD'.out.go hc
            have hH := refHolds_any t r hs Hr.out (t.size + 1) (t.size + 1) 0 (p + 1) ts q wr (Nat.le_refl _) hcd
            have HRD2 := hid hRD2
            have HV := hid hV
            rw [hc] at B0
            clear hRD2 hV hRD' hcd hc HR
            go_wp2_with fail
            refine hH.mono ?_
            rintro e w2 ⟨ts', n2, p2, rfl, hn2, hp2, hcd2, hev, hw⟩
            subst hw
            clear hH
            have hqe : p2 = q := by
              have h1 := hcd2.eq
              rw [cond_stop t _ _ _ (Or.inl (by simp))] at h1
              simp only [Prod.mk.injEq, Sv.St.mk.injEq] at h1
              exact h1.2.1
            subst hqe
            clear hcd2 hev
            have hhold : Sv.hd (Sv.ev r ts) = Sv.holds r ts := rfl
            rw [hhold]
            clear hhold
            cases hb : Sv.holds r ts
            · have HV2 : Hid (V = Sv.verdict r (Sv.word t (Sv.need t 46 (Sv.rules t n' ⟨p2 + 5, false⟩).2)).1 (Sv.rules t n' ⟨p2 + 5, false⟩).1) := by
                unfold Hid; rw [HV.out, hb]; rfl
              clear hb HV
              go_wp2_with fail
              go_roundg (gk - 1)
              case measure => omega
              case rel => exact ⟨n', p2 + 5, by simp, rfl, by omega, by rw [HV2.out]; exact HRD2.out⟩
            · have HV2 : Hid (V = Sv.numN t (p2 + 1) 4) := by unfold Hid; rw [HV.out, hb]; rfl
              have hN : ∀ w, Calls Tryz.prog 43 #[.string t, .int .i64 ((p2 : Int) + 1), .int .i64 4] w fun e w' => e = .returned (.int .i64 (Sv.numN t (p2 + 1) 4)) ∧ w' = w := fun w => number_at w t p2 1 4 (by omega) (by omega) hs
              clear hb HV
              go_wp2_with fail
              refine (hN _).mono ?_
              rintro e w3 ⟨rfl, hw⟩
              subst hw
              clear hN
              go_wp2_with fail
              go_ret2
              rw [hv.out, HV2.out]
              exact ⟨rfl, rfl⟩
          · obtain ⟨hV, hp5, _⟩ := hRD'.out.stop hc
            have hne2 : (Sv.byteAt t p == 63) = false := by simp [hc]
            have HV2 := hid hV
            have hN : ∀ w, Calls Tryz.prog 43 #[.string t, .int .i64 ((p : Int) + 1), .int .i64 4] w fun e w' => e = .returned (.int .i64 (Sv.numN t (p + 1) 4)) ∧ w' = w := fun w => number_at w t p 1 4 (by omega) (by omega) hs
            clear hV hRD' HR hc
            go_wp2_with fail
            refine (hN _).mono ?_
            rintro e w3 ⟨rfl, hw⟩
            subst hw
            clear hN
            go_wp2_with fail
            go_ret2
            rw [hv.out, HV2.out]
            exact ⟨rfl, rfl⟩
      · have hv : Hid (Sv.judge t r = (0, 9)) := by unfold Hid; rw [hv0, if_neg hr]
        have hne : ((r.size : Int) != 20) = true := by simp; omega
        clear hck hl hf hf' hv0 hr ht
        go_enter Tryz.func21, Tryz.ntmps21
        go_wp2_with fail
        refine (hC _).mono ?_
        rintro e w1 ⟨rfl, hw⟩
        subst hw
        clear hC
        go_wp2_with fail
        go_ret2
        rw [hv.out]
        exact ⟨rfl, rfl⟩
end Go.Proofs.YteimonhjddeghaaGreat
