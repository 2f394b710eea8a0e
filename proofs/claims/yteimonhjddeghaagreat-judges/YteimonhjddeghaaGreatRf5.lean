import Derived.Test.YteimonhjddeghaaGreatRf4
namespace Go.Proofs.YteimonhjddeghaaGreat
open Go.RowKit
set_option linter.unusedVariables false
set_option linter.unusedSimpArgs false

/-- m conditions are read from p on, the fuel is enough -/
structure CD (t : ByteArray) (n m p : Nat) (ts : List Sv.Tm) (q : Nat) : Prop where
  eq : Sv.cond t n m ⟨p, false⟩ = (ts, ⟨q, false⟩)
  le : p ≤ t.size
  fuel : t.size + 1 ≤ p + n

/-- a condition ahead: its first term -/
theorem CD.step {t : ByteArray} {n m p : Nat} {ts : List Sv.Tm} {q : Nat} (h : CD t n (m + 1) p ts q) :
    ∃ x p1 ts' n', n = n' + 1 ∧ ts = x :: ts' ∧ Sv.term t ⟨p, false⟩ = (x, ⟨p1, false⟩) ∧ p + 1 ≤ p1 ∧ CD t n' (m + (Sv.parts x.kind).toNat) p1 ts' q := by
  obtain ⟨n', rfl⟩ : ∃ n', n = n' + 1 := ⟨n - 1, by have := h.le; have := h.fuel; omega⟩
  have he := h.eq
  rw [cond_go t n' _ ⟨p, false⟩ (by omega) rfl] at he
  have hr := parts_range (Sv.term t ⟨p, false⟩).1.kind
  have e1 : ((m + 1 : Nat) : Int) - 1 + Sv.parts (Sv.term t ⟨p, false⟩).1.kind = ((m + (Sv.parts (Sv.term t ⟨p, false⟩).1.kind).toNat : Nat) : Int) := by omega
  rw [e1] at he
  have hp1 := Sv_term_p t ⟨p, false⟩ h.le
  have ha := term_adv t ⟨p, false⟩
  generalize hX : Sv.term t ⟨p, false⟩ = X at *
  obtain ⟨x, ⟨p1, f⟩⟩ := X
  simp only at he hp1 ha
  cases f
  · refine ⟨x, p1, _, n', rfl, ?_, rfl, ha rfl, ⟨Prod.ext rfl (by have := congrArg Prod.snd he; exact this), hp1, by have := h.fuel; have := ha rfl; omega⟩⟩
    have := congrArg Prod.fst he
    exact this.symm
  · rw [cond_stop t _ _ _ (Or.inr rfl)] at he
    cases he

set_option maxRecDepth 100000 in
set_option maxHeartbeats 4000000 in
theorem refHolds_any (t r : ByteArray) (ht : t.size ≤ 600) (hr : r.size = 20) (N : Nat) : ∀ (n m p : Nat) (ts : List Sv.Tm) (q : Nat) (w : World), n ≤ N → CD t n (m + 1) p ts q →
    Calls Tryz.prog 42 #[.string t, .int .i64 p, .string r] w fun e w' => ∃ ts' n' p1, e = .returned (.tuple #[.bool (Sv.hd (Sv.ev r ts)), .int .i64 ((p1 : Nat) : Int)]) ∧ n' ≤ n ∧ p ≤ p1 ∧ CD t n' m p1 ts' q ∧ Hid (Sv.ev r ts' = (Sv.ev r ts).tail) ∧ w' = w := by
  induction N with
  | zero =>
    intro n m p ts q w hn h
    have := h.le; have := h.fuel; omega
  | succ N ih =>
    intro n m p ts q w hn h
    obtain ⟨x, p1, ts2, n1, rfl, rfl, hT, hpp, h2⟩ := h.step
    have hlt : p < t.size := by have := h2.le; omega
    have B0 : ((t[p]'hlt).toNat : Int) = Sv.byteAt t p := (byteAt_in hlt).symm
    have HT : Hid (Sv.term t ⟨p, false⟩ = (x, ⟨p1, false⟩)) := hT
    have HI := hid ih
    have hn1 : n1 ≤ N := by omega
    clear ih hT h
    have hl : Sv.look t ⟨p, false⟩ = Sv.byteAt t p := rfl
    have HU : Hid (Sv.term t ⟨p, false⟩ = if Sv.byteAt t p = 84 then (Sv.tm0 0, ⟨p + 1, false⟩)
      else if Sv.byteAt t p = 33 then (Sv.tm0 1, ⟨p + 1, false⟩)
      else if Sv.byteAt t p = 38 then (Sv.tm0 2, ⟨p + 1, false⟩)
      else if Sv.byteAt t p = 124 then (Sv.tm0 3, ⟨p + 1, false⟩)
      else if Sv.byteAt t p = 110 then Sv.short t 0 ⟨p + 1, false⟩
      else if Sv.byteAt t p = 104 then Sv.short t 2 ⟨p + 1, false⟩
      else if Sv.byteAt t p = 97 then Sv.argument t ⟨p + 1, false⟩
      else (Sv.tm0 0, ⟨p, true⟩)) := rfl
    clear hl
    have e0 : ((p : Int)).toNat = p := by omega
    have e00 : (p : Int) < (t.size : Int) := by omega
    generalize Sv.byteAt t p = c at *
    by_cases q0 : c = 84
    · have hx := HU.out; rw [if_pos q0, HT.out] at hx
      simp only [Prod.mk.injEq, Sv.St.mk.injEq] at hx
      obtain ⟨rfl, rfl, _⟩ := hx
      subst q0
      have H2 := hid h2
      clear HU HT h2 HI
      go_enter Tryz.func42, Tryz.ntmps42
      go_wp2_with fail
      go_ret2
      exact ⟨ts2, n1, p + 1, rfl, by omega, by omega, H2.out, rfl, rfl⟩
    have b0 : (c == 84) = false := by simp [q0]
    by_cases q1 : c = 33
    · have hx := HU.out; rw [if_neg q0, if_pos q1, HT.out] at hx
      simp only [Prod.mk.injEq, Sv.St.mk.injEq] at hx
      obtain ⟨rfl, rfl, _⟩ := hx
      subst q1
      have hI := HI.out n1 m (p + 1) ts2 q w hn1 h2
      clear HU HT h2 HI q0 b0
      go_enter Tryz.func42, Tryz.ntmps42
      go_wp2_with fail
      refine hI.mono ?_
      rintro e w1 ⟨ts', n', p', rfl, hn', hp', hcd, hev, hw⟩
      subst hw
      clear hI
      have Hc := hid hcd
      clear hcd
      go_wp2_with fail
      go_ret2
      exact ⟨ts', n', p', rfl, by omega, by omega, Hc.out, by unfold Hid; rw [hev.out]; rfl, rfl⟩
    have b1 : (c == 33) = false := by simp [q1]
    by_cases q2 : c = 38
    · have hx := HU.out; rw [if_neg q0, if_neg q1, if_pos q2, HT.out] at hx
      simp only [Prod.mk.injEq, Sv.St.mk.injEq] at hx
      obtain ⟨rfl, rfl, _⟩ := hx
      subst q2
      have h2' : CD t n1 ((m + 1) + 1) (p + 1) ts2 q := h2
      have hI := HI.out n1 (m + 1) (p + 1) ts2 q w hn1 h2'
      clear HU HT h2 h2' q0 b0 q1 b1
      go_enter Tryz.func42, Tryz.ntmps42
      go_wp2_with fail
      refine hI.mono ?_
      rintro e w1 ⟨ts', n', p', rfl, hn', hp', hcd, hev, hw⟩
      subst hw
      clear hI
      go_wp2_with fail
      have hI2 := HI.out n' m p' ts' q w1 (by omega) hcd
      refine hI2.mono ?_
      rintro e w2 ⟨ts3, n3, p3, rfl, hn3, hp3, hcd3, hev3, hw⟩
      subst hw
      clear hI2 HI hcd
      have Hc := hid hcd3
      clear hcd3
      have hfin : Hid (Sv.ev r (Sv.tm0 2 :: ts2) = (Sv.hd (Sv.ev r ts2) && Sv.hd (Sv.ev r ts')) :: (Sv.ev r ts').tail) := by
        unfold Hid; rw [hev.out]; rfl
      generalize Sv.hd (Sv.ev r ts2) = x1 at *
      generalize Sv.hd (Sv.ev r ts') = x2 at *
      cases x1
      all_goals
        go_wp2_with fail
        go_ret2
        rw [hfin.out]
        exact ⟨ts3, n3, p3, rfl, by omega, by omega, Hc.out, by unfold Hid; rw [hev3.out]; rfl, rfl⟩
    have b2 : (c == 38) = false := by simp [q2]
    by_cases q3 : c = 124
    · have hx := HU.out; rw [if_neg q0, if_neg q1, if_neg q2, if_pos q3, HT.out] at hx
      simp only [Prod.mk.injEq, Sv.St.mk.injEq] at hx
      obtain ⟨rfl, rfl, _⟩ := hx
      subst q3
      have h2' : CD t n1 ((m + 1) + 1) (p + 1) ts2 q := h2
      have hI := HI.out n1 (m + 1) (p + 1) ts2 q w hn1 h2'
      clear HU HT h2 h2' q0 b0 q1 b1 q2 b2
      go_enter Tryz.func42, Tryz.ntmps42
      go_wp2_with fail
      refine hI.mono ?_
      rintro e w1 ⟨ts', n', p', rfl, hn', hp', hcd, hev, hw⟩
      subst hw
      clear hI
      go_wp2_with fail
      have hI2 := HI.out n' m p' ts' q w1 (by omega) hcd
      refine hI2.mono ?_
      rintro e w2 ⟨ts3, n3, p3, rfl, hn3, hp3, hcd3, hev3, hw⟩
      subst hw
      clear hI2 HI hcd
      have Hc := hid hcd3
      clear hcd3
      have hfin : Hid (Sv.ev r (Sv.tm0 3 :: ts2) = (Sv.hd (Sv.ev r ts2) || Sv.hd (Sv.ev r ts')) :: (Sv.ev r ts').tail) := by
        unfold Hid; rw [hev.out]; rfl
      generalize Sv.hd (Sv.ev r ts2) = x1 at *
      generalize Sv.hd (Sv.ev r ts') = x2 at *
      cases x1
      all_goals
        go_wp2_with fail
        go_ret2
        rw [hfin.out]
        exact ⟨ts3, n3, p3, rfl, by omega, by omega, Hc.out, by unfold Hid; rw [hev3.out]; rfl, rfl⟩
    have b3 : (c == 124) = false := by simp [q3]
    have e11 : (p : Int) + 1 < (t.size : Int) → True := fun _ => trivial
    by_cases q4 : c = 110
    · have hx := HU.out; rw [if_neg q0, if_neg q1, if_neg q2, if_neg q3, if_pos q4, HT.out] at hx
      have hs := Sv.short_res t 0 (p + 1) (by rw [← hx])
      obtain ⟨s1, s2, s3, s4, s5⟩ := hs
      rw [s1] at hx
      simp only [Prod.mk.injEq, Sv.St.mk.injEq] at hx
      obtain ⟨rfl, rfl, _⟩ := hx
      subst q4
      have hwr := wordAt_range hr (by omega : (0 : Int) ≤ 0) (by omega)
      have hfin : Hid (Sv.ev r (⟨4, 0, 0, 65535, Sv.relCode (Sv.byteAt t (p + 1)), 0, Sv.numN t (p + 1 + 1) 4⟩ :: ts2) = Sv.relB (Sv.byteAt t (p + 1)) (Sv.wordAt r 0) (Sv.numN t (p + 2) 4) :: Sv.ev r ts2) := by
        unfold Hid; rw [← Sv.cmp_short r 0 _ _ hwr.1 hwr.2 s2]; rfl
      have h1 : p + 1 < t.size := by omega
      have B1 : ((t[p + 1]'h1).toNat : Int) = Sv.byteAt t (p + 1) := (byteAt_in h1).symm
      have hN : ∀ w, Calls Tryz.prog 43 #[.string t, .int .i64 ((p : Int) + 2), .int .i64 4] w fun e w' => e = .returned (.int .i64 (Sv.numN t (p + 2) 4)) ∧ w' = w := fun w => number_at w t p 2 4 (by omega) (by omega) ht
      have hb := fun w => bytes2 w r 0 hr (by omega) (by omega)
      have hR := fun w => related_any w (Sv.byteAt t (p + 1)) (Sv.wordAt r 0) (Sv.numN t (p + 2) 4)
      have f1 : (p : Int) + 1 < (t.size : Int) := by omega
      have f2 : (0 : Int) ≤ (p : Int) + 1 := by omega
      have f3 : ((p : Int) + 1).toNat = p + 1 := by omega
      have H2 := hid h2
      clear HU HT h2 HI q0 b0 q1 b1 q2 b2 q3 b3 s1 s2 s4 s5 hwr e11
      generalize Sv.relB (Sv.byteAt t (p + 1)) (Sv.wordAt r 0) (Sv.numN t (p + 2) 4) = bb at *
      generalize Sv.byteAt t (p + 1) = C at *
      generalize Sv.wordAt r 0 = W at *
      go_enter Tryz.func42, Tryz.ntmps42
      go_wp2_with fail
      refine (hN _).mono ?_
      rintro e w1 ⟨rfl, hw⟩
      subst hw
      clear hN
      go_wp2_with fail
      refine (hb _).mono ?_
      rintro e w1 ⟨rfl, hw⟩
      subst hw
      clear hb
      go_wp2_with fail
      refine (hR _).mono ?_
      rintro e w1 ⟨rfl, hw⟩
      subst hw
      clear hR
      go_wp2_with fail
      go_ret2
      rw [hfin.out]
      exact ⟨ts2, n1, p + 1 + 5, by simp [Sv.hd]; omega, by omega, by omega, H2.out, rfl, rfl⟩
    have b4 : (c == 110) = false := by simp [q4]
    by_cases q5 : c = 104
    · have hx := HU.out; rw [if_neg q0, if_neg q1, if_neg q2, if_neg q3, if_neg q4, if_pos q5, HT.out] at hx
      have hs := Sv.short_res t 2 (p + 1) (by rw [← hx])
      obtain ⟨s1, s2, s3, s4, s5⟩ := hs
      rw [s1] at hx
      simp only [Prod.mk.injEq, Sv.St.mk.injEq] at hx
      obtain ⟨rfl, rfl, _⟩ := hx
      subst q5
      have hwr := wordAt_range hr (by omega : (0 : Int) ≤ 2) (by omega)
      have hfin : Hid (Sv.ev r (⟨4, 2, 0, 65535, Sv.relCode (Sv.byteAt t (p + 1)), 0, Sv.numN t (p + 1 + 1) 4⟩ :: ts2) = Sv.relB (Sv.byteAt t (p + 1)) (Sv.wordAt r 2) (Sv.numN t (p + 2) 4) :: Sv.ev r ts2) := by
        unfold Hid; rw [← Sv.cmp_short r 2 _ _ hwr.1 hwr.2 s2]; rfl
      have h1 : p + 1 < t.size := by omega
      have B1 : ((t[p + 1]'h1).toNat : Int) = Sv.byteAt t (p + 1) := (byteAt_in h1).symm
      have hN : ∀ w, Calls Tryz.prog 43 #[.string t, .int .i64 ((p : Int) + 2), .int .i64 4] w fun e w' => e = .returned (.int .i64 (Sv.numN t (p + 2) 4)) ∧ w' = w := fun w => number_at w t p 2 4 (by omega) (by omega) ht
      have hb := fun w => bytes2 w r 2 hr (by omega) (by omega)
      have hR := fun w => related_any w (Sv.byteAt t (p + 1)) (Sv.wordAt r 2) (Sv.numN t (p + 2) 4)
      have f1 : (p : Int) + 1 < (t.size : Int) := by omega
      have f2 : (0 : Int) ≤ (p : Int) + 1 := by omega
      have f3 : ((p : Int) + 1).toNat = p + 1 := by omega
      have H2 := hid h2
      clear HU HT h2 HI q0 b0 q1 b1 q2 b2 q3 b3 q4 b4 s1 s2 s4 s5 hwr e11
      generalize Sv.relB (Sv.byteAt t (p + 1)) (Sv.wordAt r 2) (Sv.numN t (p + 2) 4) = bb at *
      generalize Sv.byteAt t (p + 1) = C at *
      generalize Sv.wordAt r 2 = W at *
      go_enter Tryz.func42, Tryz.ntmps42
      go_wp2_with fail
      refine (hN _).mono ?_
      rintro e w1 ⟨rfl, hw⟩
      subst hw
      clear hN
      go_wp2_with fail
      refine (hb _).mono ?_
      rintro e w1 ⟨rfl, hw⟩
      subst hw
      clear hb
      go_wp2_with fail
      refine (hR _).mono ?_
      rintro e w1 ⟨rfl, hw⟩
      subst hw
      clear hR
      go_wp2_with fail
      go_ret2
      rw [hfin.out]
      exact ⟨ts2, n1, p + 1 + 5, by simp [Sv.hd]; omega, by omega, by omega, H2.out, rfl, rfl⟩
    have b5 : (c == 104) = false := by simp [q5]
    by_cases q6 : c = 97
    · have hx := HU.out; rw [if_neg q0, if_neg q1, if_neg q2, if_neg q3, if_neg q4, if_neg q5, if_pos q6, HT.out] at hx
      have hs := Sv.argument_res t (p + 1) (by rw [← hx])
      obtain ⟨d0, d1, hs⟩ := hs
      subst q6
      have hk0 : 0 ≤ 4 + 4 * (Sv.byteAt t (p + 1) - 48) := by omega
      have hk1 : 4 + 4 * (Sv.byteAt t (p + 1) - 48) ≤ 16 := by omega
      have g0 := wordAt_range hr hk0 (by omega)
      have g1 := wordAt_range hr (by omega : 0 ≤ 4 + 4 * (Sv.byteAt t (p + 1) - 48) + 2) (by omega)
      rcases hs with ⟨hc, hp20, m1, m2, v1, v2, heq⟩ | ⟨hc, hrel, hp11, v1, v2, heq⟩
      · rw [heq] at hx
        simp only [Prod.mk.injEq, Sv.St.mk.injEq] at hx
        obtain ⟨rfl, rfl, _⟩ := hx
        have n8 := Sv.numN_8 t (p + 3)
        have n12 := Sv.numN_8 t (p + 12)
        have m1' : 0 ≤ Sv.numN t (p + 3) 4 ∧ Sv.numN t (p + 3) 4 < 65536 := m1
        have m2' : 0 ≤ Sv.numN t (p + 3 + 4) 4 ∧ Sv.numN t (p + 3 + 4) 4 < 65536 := m2
        have hA := refArg_mask w t r p ht hr (by omega) d0 d1 hc (by omega) (by omega)
        have hfin : Hid (Sv.ev r (⟨4, 4 + 4 * (Sv.byteAt t (p + 1) - 48), Sv.numN t (p + 1 + 2) 4, Sv.numN t (p + 1 + 6) 4, 0, Sv.numN t (p + 1 + 11) 4, Sv.numN t (p + 1 + 15) 4⟩ :: ts2) =
            (Sv.land (argV r (Sv.byteAt t (p + 1))) (Sv.numN t (p + 3) 8) == Sv.numN t (p + 12) 8) :: Sv.ev r ts2) := by
          unfold Hid
          rw [n8, n12]
          have := Sv.cmp_mask r (4 + 4 * (Sv.byteAt t (p + 1) - 48)) (Sv.numN t (p + 1 + 2) 4) (Sv.numN t (p + 1 + 6) 4) (Sv.numN t (p + 1 + 11) 4) (Sv.numN t (p + 1 + 15) 4) g0.1 g0.2 g1.1 m1.1 m2.1 m2.2 v2.1 v2.2
          show Sv.cmp r _ :: Sv.ev r ts2 = _
          rw [this]
          rfl
        have H2 := hid h2
        clear HU HT h2 HI q0 q1 q2 q3 q4 q5 b0 b1 b2 b3 b4 b5 e11 heq m1 m2 v1 v2 n8 n12 m1' m2' g0 g1 hk0 hk1
        generalize (Sv.land (argV r (Sv.byteAt t (p + 1))) (Sv.numN t (p + 3) 8) == Sv.numN t (p + 12) 8) = bb at *
        go_enter Tryz.func42, Tryz.ntmps42
        go_wp2_with fail
        refine hA.mono ?_
        rintro e w1 ⟨rfl, hw⟩
        subst hw
        clear hA
        go_wp2_with fail
        go_ret2
        rw [hfin.out]
        exact ⟨ts2, n1, p + 1 + 19, by simp [Sv.hd]; omega, by omega, by omega, H2.out, rfl, rfl⟩
      · rw [heq] at hx
        simp only [Prod.mk.injEq, Sv.St.mk.injEq] at hx
        obtain ⟨rfl, rfl, _⟩ := hx
        have n8 := Sv.numN_8 t (p + 3)
        have hA := refArg_rel w t r p ht hr (by omega) d0 d1 hc
        have hfin : Hid (Sv.ev r (⟨4, 4 + 4 * (Sv.byteAt t (p + 1) - 48), 65535, 65535, Sv.relCode (Sv.byteAt t (p + 1 + 1)), Sv.numN t (p + 1 + 2) 4, Sv.numN t (p + 1 + 6) 4⟩ :: ts2) =
            Sv.relB (Sv.byteAt t (p + 2)) (argV r (Sv.byteAt t (p + 1))) (Sv.numN t (p + 3) 8) :: Sv.ev r ts2) := by
          unfold Hid
          rw [n8]
          have := Sv.cmp_arg r (4 + 4 * (Sv.byteAt t (p + 1) - 48)) (Sv.byteAt t (p + 1 + 1)) (Sv.numN t (p + 1 + 2) 4) (Sv.numN t (p + 1 + 6) 4) g0.1 g0.2 g1.1 g1.2 v2.1 v2.2 hrel
          show Sv.cmp r _ :: Sv.ev r ts2 = _
          rw [this]
          rfl
        have H2 := hid h2
        clear HU HT h2 HI q0 q1 q2 q3 q4 q5 b0 b1 b2 b3 b4 b5 e11 heq v1 v2 n8 g0 g1 hk0 hk1 hrel hc
        generalize Sv.relB (Sv.byteAt t (p + 2)) (argV r (Sv.byteAt t (p + 1))) (Sv.numN t (p + 3) 8) = bb at *
        go_enter Tryz.func42, Tryz.ntmps42
        go_wp2_with fail
        refine hA.mono ?_
        rintro e w1 ⟨rfl, hw⟩
        subst hw
        clear hA
        go_wp2_with fail
        go_ret2
        rw [hfin.out]
        exact ⟨ts2, n1, p + 1 + 10, by simp [Sv.hd]; omega, by omega, by omega, H2.out, rfl, rfl⟩
    · have hx := HU.out; rw [if_neg q0, if_neg q1, if_neg q2, if_neg q3, if_neg q4, if_neg q5, if_neg q6, HT.out] at hx
      simp only [Prod.mk.injEq, Sv.St.mk.injEq] at hx
      cases hx.2.2
end Go.Proofs.YteimonhjddeghaaGreat
