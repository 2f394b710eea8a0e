import Derived.Test.YtibgffbcbhphdaaJd3
namespace Go.Proofs.Ytibgffbcbhphdaa
open Go.RowKit
set_option linter.unusedVariables false
set_option linter.unusedSimpArgs false

theorem tm0_ok (k : Int) : Sv.TmOk (Sv.tm0 k) := by refine ⟨?_, ?_, ?_, ?_, ?_, ?_⟩ <;> simp [Sv.tm0]
theorem short_ok (t : ByteArray) (s : Sv.St) (k : Int) (h0 : 0 ≤ k) (h1 : k ≤ 16) : Sv.TmOk (Sv.short t k s).1 := by
  refine ⟨h0, h1, ?_, ?_, ?_, ?_⟩ <;> simp [Sv.short]
set_option maxRecDepth 100000 in
theorem argument_ok (t : ByteArray) (s : Sv.St) (hp : s.p ≤ t.size) : Sv.TmOk (Sv.argument t s).1 := by
  have h1 := Sv_index_p t s hp
  unfold Sv.argument
  split
  · have h2 := look_pos t (Sv.index t s).2 (by omega)
    have h3 := Sv_word_p t ⟨(Sv.index t s).2.p + 1, (Sv.index t s).2.f⟩ h2
    have h4 := Sv_word_p t _ h3.1
    refine ⟨?_, ?_, h3.2.1, h3.2.2, h4.2.1, h4.2.2⟩ <;> simp only <;> omega
  · refine ⟨?_, ?_, ?_, ?_, ?_, ?_⟩ <;> simp only <;> omega
set_option maxRecDepth 100000 in
theorem term_ok (t : ByteArray) (s : Sv.St) (hp : s.p ≤ t.size) : Sv.TmOk (Sv.term t s).1 := by
  have hl := look_pos t s
  unfold Sv.term
  repeat' split
  all_goals first | exact tm0_ok _ | exact short_ok t _ _ (by omega) (by omega) | exact argument_ok t _ (hl (by omega))
theorem cond_ok (t : ByteArray) (n : Nat) : ∀ (m : Int) (s : Sv.St), s.p ≤ t.size → (∀ x ∈ (Sv.cond t n m s).1, Sv.TmOk x) ∧ (Sv.cond t n m s).1.length ≤ n := by
  induction n with
  | zero => intro m s hp; exact ⟨fun x hx => by simp [Sv.cond] at hx, by simp [Sv.cond]⟩
  | succ n ih =>
    intro m s hp
    by_cases h : 0 < m ∧ s.f = false
    · rw [cond_go t n m s h.1 h.2]
      have := ih (m - 1 + Sv.parts (Sv.term t s).1.kind) _ (Sv_term_p t s hp)
      refine ⟨fun x hx => ?_, by simpa using this.2⟩
      rcases List.mem_cons.1 hx with rfl | hx
      · exact term_ok t s hp
      · exact this.1 x hx
    · unfold Sv.cond
      rw [if_neg h]
      exact ⟨fun x hx => by simp at hx, by simp⟩
theorem rules_ok (t : ByteArray) (n : Nat) : ∀ (s : Sv.St), s.p ≤ t.size → (∀ x ∈ (Sv.rules t n s).1, x.1.length ≤ t.size + 1 ∧ ∀ y ∈ x.1, Sv.TmOk y) ∧ (Sv.rules t n s).1.length ≤ n := by
  induction n with
  | zero => intro s hp; exact ⟨fun x hx => by simp [Sv.rules] at hx, by simp [Sv.rules]⟩
  | succ n ih =>
    intro s hp
    by_cases h : Sv.look t s = 63
    · rw [rules_go t n s h]
      have hp1 : s.p + 1 ≤ t.size := look_pos t s (by omega)
      have hc := cond_ok t (t.size + 1) 1 ⟨s.p + 1, s.f⟩ hp1
      have := ih _ (Sv_rule_p t ⟨s.p + 1, s.f⟩ hp1).1
      refine ⟨fun x hx => ?_, by simpa using this.2⟩
      rcases List.mem_cons.1 hx with rfl | hx
      · exact ⟨hc.2, hc.1⟩
      · exact this.1 x hx
    · rw [rules_stop t _ s h]
      exact ⟨fun x hx => by simp at hx, by simp⟩

set_option maxHeartbeats 1000000 in
theorem isRecord_any (w : World) (r : ByteArray) (hm : r.size ≤ maxLen) :
    Calls Try.prog 46 #[.string r] w fun e w' => e = .returned (.bool (decide (r.size = 20))) ∧ w' = w := by
  unfold maxLen at hm
  by_cases h : r.size = 20
  · have e : ((r.size : Int) == 20) = true := by simp; omega
    have hv : Hid (decide (r.size = 20) = true) := by simp [Hid, h]
    clear h
    go_enter Try.func46, Try.ntmps46
    go_wp2
    go_ret
    rw [hv.out]
    exact ⟨rfl, rfl⟩
  · have e : ((r.size : Int) == 20) = false := by simp; omega
    have hv : Hid (decide (r.size = 20) = false) := by simp [Hid, h]
    clear h
    go_enter Try.func46, Try.ntmps46
    go_wp2
    go_ret
    rw [hv.out]
    exact ⟨rfl, rfl⟩

set_option maxRecDepth 100000 in
set_option maxHeartbeats 1000000 in
theorem judge_rules (w : World) (t r : ByteArray) (ht : t.size ≤ maxLen) (hm : r.size ≤ maxLen) :
    Calls Try.prog 35 #[.string t, .string r] w fun e w' => e = .returned (.tuple #[.int .i64 (Sv.judge t r).1, .int .i64 (Sv.judge t r).2]) ∧ w.grownBy w' none := by
  by_cases hl : 600 < t.size
  · have hv : Hid (Sv.judge t r = (0, 1)) := by unfold Hid Sv.judge; rw [if_pos hl]
    have hP := parse_long w t ht hl
    clear hl
    go_enter Try.func35, Try.ntmps35
    go_wp2_with fail
    refine hP.mono ?_
    rintro e w1 ⟨rfl, hg⟩
    clear hP
    go_wp2_with fail
    go_ret2
    rw [hv.out]
    exact ⟨rfl, gb_alloc hg _⟩
  · have hs : t.size ≤ 600 := by omega
    by_cases hf : (Sv.policy t ⟨0, false⟩).2.f = true
    · have hv : Hid (Sv.judge t r = (0, 2)) := by unfold Hid Sv.judge; rw [if_neg hl, if_pos hf]
      have hP := parse_form w t hs hf
      clear hl hf
      go_enter Try.func35, Try.ntmps35
      go_wp2_with fail
      refine hP.mono ?_
      rintro e w1 ⟨rfl, hg⟩
      clear hP
      go_wp2_with fail
      go_ret2
      rw [hv.out]
      exact ⟨rfl, gb_alloc hg _⟩
    · have hf' : (Sv.policy t ⟨0, false⟩).2.f = false := by simpa using hf
      have hP := parse_ok w t hs hf'
      have hR := rules_ok t (t.size + 1) ⟨0, false⟩ (Nat.zero_le _)
      have hRL : Sv.rules t (t.size + 1) ⟨0, false⟩ = Sv.ruleList t ⟨0, false⟩ := rfl
      rw [hRL] at hR
      have hR2 : (∀ x ∈ (Sv.policy t ⟨0, false⟩).1.1, x.1.length ≤ t.size + 1 ∧ ∀ y ∈ x.1, Sv.TmOk y) ∧ (Sv.policy t ⟨0, false⟩).1.1.length ≤ t.size + 1 := hR
      clear hR hRL
      have hv0 : Hid (Sv.judge t r = if r.size = 20 then (Sv.verdict r (Sv.policy t ⟨0, false⟩).1.2 (Sv.policy t ⟨0, false⟩).1.1, 0) else (0, 9)) := by
        unfold Hid Sv.judge; rw [if_neg hl, if_neg hf]
      generalize Sv.policy t ⟨0, false⟩ = X at *
      obtain ⟨⟨R, d⟩, s1⟩ := X
      simp only at hP hR2 hv0
      clear hf hf' hl
      have HR2 := hid hR2
      clear hR2
      by_cases hr : r.size = 20
      · have hv : Hid (Sv.judge t r = (Sv.verdict r d R, 0)) := by unfold Hid; rw [hv0.out, if_pos hr]
        have hI := fun w => isRecord_any w r hm
        simp only [hr, decide_true] at hI
        clear hv0
        have Hr := hid hr
        clear hr
        go_enter Try.func35, Try.ntmps35
        go_wp2_with fail
        refine hP.mono ?_
        rintro e w1 ⟨pa, pc, rfl, hg, hpol⟩
        clear hP
        go_wp2_with fail
        refine (hI _).mono ?_
        rintro e w2 ⟨rfl, rfl⟩
        clear hI
        go_wp2_with fail
        obtain ⟨L, hL1, hL2, hL3⟩ := hpol
        have hLR : R.length = L.length := by rw [← hL1]; simp
        rw [hLR] at hL2 ⊢
        refine (verdict_any _ w1.heap.size L d ?_ ?_ r Hr.out w.heap.size pa pc (Blk.new w1 _ _) (hL2.alloc _) (hL3.alloc _)).mono ?_
        · intro x hx
          have hm := HR2.out.1 (x.ts, x.k) (by rw [← hL1]; exact List.mem_map.2 ⟨x, hx, rfl⟩)
          exact ⟨by have := hm.1; simp only at this; omega, hm.2⟩
        · have := HR2.out.2; omega
        · rintro e w3 ⟨rfl, hg3⟩
          have HL1 := hid hL1
          clear hL1 hLR
          go_wp2_with fail
          go_ret2
          rw [hv.out, ← HL1.out]
          exact ⟨rfl, gb_trans (gb_alloc hg _) hg3⟩
      · have hv : Hid (Sv.judge t r = (0, 9)) := by unfold Hid; rw [hv0.out, if_neg hr]
        have hI := fun w => isRecord_any w r hm
        simp only [hr, decide_false] at hI
        clear hv0 hr
        go_enter Try.func35, Try.ntmps35
        go_wp2_with fail
        refine hP.mono ?_
        rintro e w1 ⟨pa, pc, rfl, hg, hpol⟩
        clear hP hpol
        go_wp2_with fail
        refine (hI _).mono ?_
        rintro e w2 ⟨rfl, rfl⟩
        clear hI
        go_wp2_with fail
        go_ret2
        rw [hv.out]
        exact ⟨rfl, gb_alloc hg _⟩

set_option maxHeartbeats 1000000 in
theorem judge_any (w : World) (t r : ByteArray) (ht : t.size ≤ maxLen) (hm : r.size ≤ maxLen) :
    Calls Try.prog 17 #[.string t, .string r] w fun e w' => e = .returned (.tuple #[.int .i64 (Sv.judge t r).1, .int .i64 (Sv.judge t r).2]) ∧ w.grownBy w' none := by
  have hJ := judge_rules w t r ht hm
  generalize Sv.judge t r = X at *
  obtain ⟨a, b⟩ := X
  go_enter Try.func17, Try.ntmps17
  go_wp2_with fail
  refine hJ.mono ?_
  rintro e w1 ⟨rfl, hg⟩
  clear hJ
  go_wp2_with fail
  go_ret2
  exact ⟨rfl, hg⟩
end Go.Proofs.Ytibgffbcbhphdaa
