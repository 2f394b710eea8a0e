import Derived.Test.YtpamlgdopmjooaaGreatRf3
import Derived.Test.YtpamlgdopmjooaaGreatGLw
namespace Go.Proofs.YtpamlgdopmjooaaGreat
open Go.RowKit
set_option linter.unusedVariables false
set_option linter.unusedSimpArgs false

/-- the argument with this digit -/
def argV (r : ByteArray) (d : Int) : Int := Sv.wordAt r (4 + 4 * (d - 48)) + 65536 * Sv.wordAt r (4 + 4 * (d - 48) + 2)
theorem argV_bd {r : ByteArray} {d : Int} (hr : r.size = 20) (h0 : 48 ≤ d) (h1 : d ≤ 51) : 0 ≤ argV r d ∧ argV r d < 4294967296 := by
  have a := wordAt_range hr (by omega : 0 ≤ 4 + 4 * (d - 48)) (by omega)
  have b := wordAt_range hr (by omega : 0 ≤ 4 + 4 * (d - 48) + 2) (by omega)
  unfold argV; omega
theorem bytes4 (w : World) (r : ByteArray) (d : Int) (hr : r.size = 20) (h0 : 48 ≤ d) (h1 : d ≤ 51) :
    Calls Tryz.prog 53 #[.string r, .int .i64 (4 + 4 * (d - 48)), .int .i64 4] w fun e w' => e = .returned (.int .i64 (argV r d)) ∧ w' = w := by
  have := bytes_any w r (4 + 4 * (d - 48)) 4 (by omega) (by omega) (by omega) (by omega) (by omega)
  have e : bN r (4 + 4 * (d - 48)).toNat (4 : Int).toNat (4 : Int).toNat = argV r d := by
    have h := bN_4 r (4 + 4 * (d - 48)).toNat
    have e2 : (((4 + 4 * (d - 48)).toNat : Nat) : Int) = 4 + 4 * (d - 48) := by omega
    rw [e2] at h
    exact h
  rw [e] at this
  exact this
theorem bytes2 (w : World) (r : ByteArray) (k : Int) (hr : r.size = 20) (h0 : 0 ≤ k) (h1 : k ≤ 2) :
    Calls Tryz.prog 53 #[.string r, .int .i64 k, .int .i64 2] w fun e w' => e = .returned (.int .i64 (Sv.wordAt r k)) ∧ w' = w := by
  have := bytes_any w r k 2 (by omega) (by omega) (by omega) (by omega) (by omega)
  have e : bN r k.toNat (2 : Int).toNat (2 : Int).toNat = Sv.wordAt r k := by
    have h := bN_2 r k.toNat
    have e2 : ((k.toNat : Nat) : Int) = k := by omega
    rw [e2] at h
    exact h
  rw [e] at this
  exact this

set_option maxRecDepth 100000 in
set_option maxHeartbeats 1000000 in
theorem refArg_rel (w : World) (t r : ByteArray) (p : Nat) (ht : t.size ≤ 600) (hr : r.size = 20) (hp : p + 11 ≤ t.size) (d0 : 48 ≤ Sv.byteAt t (p + 1)) (d1 : Sv.byteAt t (p + 1) ≤ 51) (hc : Sv.byteAt t (p + 2) ≠ 38) :
    Calls Tryz.prog 63 #[.string t, .int .i64 p, .string r] w fun e w' => e = .returned (.tuple #[.bool (Sv.relB (Sv.byteAt t (p + 2)) (argV r (Sv.byteAt t (p + 1))) (Sv.numN t (p + 3) 8)), .int .i64 ((p : Int) + 11)]) ∧ w' = w := by
  have h1 : p + 1 < t.size := by omega
  have h2 : p + 2 < t.size := by omega
  have B1 : ((t[p + 1]'h1).toNat : Int) = Sv.byteAt t (p + 1) := (byteAt_in h1).symm
  have B2 : ((t[p + 2]'h2).toNat : Int) = Sv.byteAt t (p + 2) := (byteAt_in h2).symm
  have hb := fun w => bytes4 w r _ hr d0 d1
  have hne : (Sv.byteAt t (p + 2) != 38) = true := by simp [hc]
  have hR := fun w => related_any w (Sv.byteAt t (p + 2)) (argV r (Sv.byteAt t (p + 1))) (Sv.numN t (p + 3) 8)
  have hN : ∀ w, Calls Tryz.prog 45 #[.string t, .int .i64 ((p : Int) + 3), .int .i64 8] w fun e w' => e = .returned (.int .i64 (Sv.numN t (p + 3) 8)) ∧ w' = w := by
    intro w
    have := number_any w t ((p : Int) + 3) 8 (by omega) (by omega) (by omega) (by omega) ht
    have e : ((p : Int) + 3).toNat = p + 3 := by omega
    rw [e] at this
    exact this
  have e11 : (p : Int) + 1 < (t.size : Int) := by omega
  have e12 : (0 : Int) ≤ (p : Int) + 1 := by omega
  have e13 : ((p : Int) + 1).toNat = p + 1 := by omega
  have e21 : (p : Int) + 2 < (t.size : Int) := by omega
  have e22 : (0 : Int) ≤ (p : Int) + 2 := by omega
  have e23 : ((p : Int) + 2).toNat = p + 2 := by omega
  generalize Sv.numN t (p + 3) 8 = v at *
  generalize Sv.byteAt t (p + 1) = D at *
  generalize Sv.byteAt t (p + 2) = C at *
  clear hc
  go_enter Tryz.func63, Tryz.ntmps63
  go_wp2_with fail
  refine (hb _).mono ?_
  rintro e w1 ⟨rfl, hw⟩
  subst hw
  clear hb
  go_wp2_with fail
  refine (hN _).mono ?_
  rintro e w1 ⟨rfl, hw⟩
  subst hw
  clear hN
  go_wp2_with fail
  refine (hR _).mono ?_
  rintro e w1 ⟨rfl, hw⟩
  subst hw
  clear hR
  go_wp2_with fail
  go_ret2
  exact ⟨rfl, rfl⟩

theorem number_at (w : World) (t : ByteArray) (p k n : Nat) (hn : n ≤ 8) (h : p + k + n ≤ t.size) (hs : t.size ≤ 600) :
    Calls Tryz.prog 45 #[.string t, .int .i64 ((p : Int) + (k : Int)), .int .i64 (n : Int)] w fun e w' => e = .returned (.int .i64 (Sv.numN t (p + k) n)) ∧ w' = w := by
  have := number_any w t ((p : Int) + k) n (by omega) (by omega) (by omega) (by omega) hs
  have e : ((p : Int) + (k : Int)).toNat = p + k := by omega
  rw [e, Int.toNat_natCast] at this
  exact this

set_option maxRecDepth 100000 in
set_option maxHeartbeats 1000000 in
theorem refArg_mask (w : World) (t r : ByteArray) (p : Nat) (ht : t.size ≤ 600) (hr : r.size = 20) (hp : p + 20 ≤ t.size) (d0 : 48 ≤ Sv.byteAt t (p + 1)) (d1 : Sv.byteAt t (p + 1) ≤ 51) (hc : Sv.byteAt t (p + 2) = 38)
    (m0 : 0 ≤ Sv.numN t (p + 3) 8) (m1 : Sv.numN t (p + 3) 8 < 4294967296) :
    Calls Tryz.prog 63 #[.string t, .int .i64 p, .string r] w fun e w' => e = .returned (.tuple #[.bool (Sv.land (argV r (Sv.byteAt t (p + 1))) (Sv.numN t (p + 3) 8) == Sv.numN t (p + 12) 8), .int .i64 ((p : Int) + 20)]) ∧ w' = w := by
  have h1 : p + 1 < t.size := by omega
  have h2 : p + 2 < t.size := by omega
  have B1 : ((t[p + 1]'h1).toNat : Int) = Sv.byteAt t (p + 1) := (byteAt_in h1).symm
  have B2 : ((t[p + 2]'h2).toNat : Int) = 38 := by rw [← hc]; exact (byteAt_in h2).symm
  have hb := fun w => bytes4 w r _ hr d0 d1
  have ha := argV_bd hr d0 d1
  have hS := fun w => shared_any w _ _ ha.1 ha.2 m0 m1
  have hN1 : ∀ w, Calls Tryz.prog 45 #[.string t, .int .i64 ((p : Int) + 3), .int .i64 8] w fun e w' => e = .returned (.int .i64 (Sv.numN t (p + 3) 8)) ∧ w' = w := fun w => number_at w t p 3 8 (by omega) (by omega) ht
  have hN2 : ∀ w, Calls Tryz.prog 45 #[.string t, .int .i64 ((p : Int) + 12), .int .i64 8] w fun e w' => e = .returned (.int .i64 (Sv.numN t (p + 12) 8)) ∧ w' = w := fun w => number_at w t p 12 8 (by omega) (by omega) ht
  have e11 : (p : Int) + 1 < (t.size : Int) := by omega
  have e12 : (0 : Int) ≤ (p : Int) + 1 := by omega
  have e13 : ((p : Int) + 1).toNat = p + 1 := by omega
  have e21 : (p : Int) + 2 < (t.size : Int) := by omega
  have e22 : (0 : Int) ≤ (p : Int) + 2 := by omega
  have e23 : ((p : Int) + 2).toNat = p + 2 := by omega
  clear hc ha
  generalize Sv.numN t (p + 3) 8 = v at *
  generalize Sv.numN t (p + 12) 8 = x at *
  generalize Sv.byteAt t (p + 1) = D at *
  generalize Sv.land (argV r D) v = z at *
  generalize argV r D = a at *
  go_enter Tryz.func63, Tryz.ntmps63
  go_wp2_with fail
  refine (hb _).mono ?_
  rintro e w1 ⟨rfl, hw⟩
  subst hw
  clear hb
  go_wp2_with fail
  refine (hN1 _).mono ?_
  rintro e w1 ⟨rfl, hw⟩
  subst hw
  clear hN1
  go_wp2_with fail
  refine (hN2 _).mono ?_
  rintro e w1 ⟨rfl, hw⟩
  subst hw
  clear hN2
  go_wp2_with fail
  refine (hS _).mono ?_
  rintro e w1 ⟨rfl, hw⟩
  subst hw
  clear hS
  go_wp2_with fail
  go_ret2
  exact ⟨rfl, rfl⟩
end Go.Proofs.YtpamlgdopmjooaaGreat
namespace Go.Proofs.YtpamlgdopmjooaaGreat
open Go.RowKit
set_option linter.unusedVariables false
set_option linter.unusedSimpArgs false

/-- m conditions are read from p on, the fuel is enough -/
structure CD (t : ByteArray) (n m p : Nat) (ts : List Sv.Tm) (q : Nat) : Prop where
  eq : Sv.cond t n m ⟨p, false⟩ = (ts, ⟨q, false⟩)
  le : p ≤ t.size
  fuel : t.size + 1 ≤ p + n

/-- a condition ahead: its first term -/
theorem CD.step {t : ByteArray} {n m p : Nat} {ts : List Sv.Tm} {q : Nat} (h : CD t n (m + 1) p ts q) :
    ∃ x p1 ts' n', n = n' + 1 ∧ ts = x :: ts' ∧ Sv.term t ⟨p, false⟩ = (x, ⟨p1, false⟩) ∧ p + 1 ≤ p1 ∧ CD t n' (m + (Sv.parts x.kind).toNat) p1 ts' q := by
  obtain ⟨n', rfl⟩ : ∃ n', n = n' + 1 := ⟨n - 1, by have := h.le; have := h.fuel; omega⟩
  have he := h.eq
  rw [cond_go t n' _ ⟨p, false⟩ (by omega) rfl] at he
  have hr := parts_range (Sv.term t ⟨p, false⟩).1.kind
  have e1 : ((m + 1 : Nat) : Int) - 1 + Sv.parts (Sv.term t ⟨p, false⟩).1.kind = ((m + (Sv.parts (Sv.term t ⟨p, false⟩).1.kind).toNat : Nat) : Int) := by omega
  rw [e1] at he
  have hp1 := Sv_term_p t ⟨p, false⟩ h.le
  have ha := term_adv t ⟨p, false⟩
  generalize hX : Sv.term t ⟨p, false⟩ = X at *
  obtain ⟨x, ⟨p1, f⟩⟩ := X
  simp only at he hp1 ha
  cases f
  · refine ⟨x, p1, _, n', rfl, ?_, rfl, ha rfl, ⟨Prod.ext rfl (by have := congrArg Prod.snd he; exact this), hp1, by have := h.fuel; have := ha rfl; omega⟩⟩
    have := congrArg Prod.fst he
    exact this.symm
  · rw [cond_stop t _ _ _ (Or.inr rfl)] at he
    cases he

set_option maxRecDepth 100000 in
set_option maxHeartbeats 4000000 in
theorem refHolds_any (t r : ByteArray) (ht : t.size ≤ 600) (hr : r.size = 20) (N : Nat) : ∀ (n m p : Nat) (ts : List Sv.Tm) (q : Nat) (w : World), n ≤ N → CD t n (m + 1) p ts q →
    Calls Tryz.prog 44 #[.string t, .int .i64 p, .string r] w fun e w' => ∃ ts' n' p1, e = .returned (.tuple #[.bool (Sv.hd (Sv.ev r ts)), .int .i64 ((p1 : Nat) : Int)]) ∧ n' ≤ n ∧ p ≤ p1 ∧ CD t n' m p1 ts' q ∧ Hid (Sv.ev r ts' = (Sv.ev r ts).tail) ∧ w' = w := by
  induction N with
  | zero =>
    intro n m p ts q w hn h
    have := h.le; have := h.fuel; omega
  | succ N ih =>
    intro n m p ts q w hn h
    obtain ⟨x, p1, ts2, n1, rfl, rfl, hT, hpp, h2⟩ := h.step
    have hlt : p < t.size := by have := h2.le; omega
    have B0 : ((t[p]'hlt).toNat : Int) = Sv.byteAt t p := (byteAt_in hlt).symm
    have HT : Hid (Sv.term t ⟨p, false⟩ = (x, ⟨p1, false⟩)) := hT
    have HI := hid ih
    have hn1 : n1 ≤ N := by omega
    clear ih hT h
    have hl : Sv.look t ⟨p, false⟩ = Sv.byteAt t p := rfl
    have HU : Hid (Sv.term t ⟨p, false⟩ = if Sv.byteAt t p = 84 then (Sv.tm0 0, ⟨p + 1, false⟩)
      else if Sv.byteAt t p = 33 then (Sv.tm0 1, ⟨p + 1, false⟩)
      else if Sv.byteAt t p = 38 then (Sv.tm0 2, ⟨p + 1, false⟩)
      else if Sv.byteAt t p = 124 then (Sv.tm0 3, ⟨p + 1, false⟩)
      else if Sv.byteAt t p = 110 then Sv.short t 0 ⟨p + 1, false⟩
      else if Sv.byteAt t p = 104 then Sv.short t 2 ⟨p + 1, false⟩
      else if Sv.byteAt t p = 97 then Sv.argument t ⟨p + 1, false⟩
      else (Sv.tm0 0, ⟨p, true⟩)) := rfl
    clear hl
    have e0 : ((p : Int)).toNat = p := by omega
    have e00 : (p : Int) < (t.size : Int) := by omega
    generalize Sv.byteAt t p = c at *
    by_cases q0 : c = 84
    · have hx := HU.out; rw [if_pos q0, HT.out] at hx
      simp only [Prod.mk.injEq, Sv.St.mk.injEq] at hx
      obtain ⟨rfl, rfl, _⟩ := hx
      subst q0
      have H2 := hid h2
      clear HU HT h2 HI
      go_enter Tryz.func44, Tryz.ntmps44
      go_wp2_with fail
      go_ret2
      exact ⟨ts2, n1, p + 1, rfl, by omega, by omega, H2.out, rfl, rfl⟩
    have b0 : (c == 84) = false := by simp [q0]
    by_cases q1 : c = 33
    · have hx := HU.out; rw [if_neg q0, if_pos q1, HT.out] at hx
      simp only [Prod.mk.injEq, Sv.St.mk.injEq] at hx
      obtain ⟨rfl, rfl, _⟩ := hx
      subst q1
      have hI := HI.out n1 m (p + 1) ts2 q w hn1 h2
      clear HU HT h2 HI q0 b0
      go_enter Tryz.func44, Tryz.ntmps44
      go_wp2_with fail
      refine hI.mono ?_
      rintro e w1 ⟨ts', n', p', rfl, hn', hp', hcd, hev, hw⟩
      subst hw
      clear hI
      have Hc := hid hcd
      clear hcd
      go_wp2_with fail
      go_ret2
      exact ⟨ts', n', p', rfl, by omega, by omega, Hc.out, by unfold Hid; rw [hev.out]; rfl, rfl⟩
    have b1 : (c == 33) = false := by simp [q1]
    by_cases q2 : c = 38
    · have hx := HU.out; rw [if_neg q0, if_neg q1, if_pos q2, HT.out] at hx
      simp only [Prod.mk.injEq, Sv.St.mk.injEq] at hx
      obtain ⟨rfl, rfl, _⟩ := hx
      subst q2
      have h2' : CD t n1 ((m + 1) + 1) (p + 1) ts2 q := h2
      have hI := HI.out n1 (m + 1) (p + 1) ts2 q w hn1 h2'
      clear HU HT h2 h2' q0 b0 q1 b1
      go_enter Tryz.func44, Tryz.ntmps44
      go_wp2_with fail
      refine hI.mono ?_
      rintro e w1 ⟨ts', n', p', rfl, hn', hp', hcd, hev, hw⟩
      subst hw
      clear hI
      go_wp2_with fail
      have hI2 := HI.out n' m p' ts' q w1 (by omega) hcd
      refine hI2.mono ?_
      rintro e w2 ⟨ts3, n3, p3, rfl, hn3, hp3, hcd3, hev3, hw⟩
      subst hw
      clear hI2 HI hcd
      have Hc := hid hcd3
      clear hcd3
      have hfin : Hid (Sv.ev r (Sv.tm0 2 :: ts2) = (Sv.hd (Sv.ev r ts2) && Sv.hd (Sv.ev r ts')) :: (Sv.ev r ts').tail) := by
        unfold Hid; rw [hev.out]; rfl
      generalize Sv.hd (Sv.ev r ts2) = x1 at *
      generalize Sv.hd (Sv.ev r ts') = x2 at *
      cases x1
      all_goals
        go_wp2_with fail
        go_ret2
        rw [hfin.out]
        exact ⟨ts3, n3, p3, rfl, by omega, by omega, Hc.out, by unfold Hid; rw [hev3.out]; rfl, rfl⟩
    have b2 : (c == 38) = false := by simp [q2]
    by_cases q3 : c = 124
    · have hx := HU.out; rw [if_neg q0, if_neg q1, if_neg q2, if_pos q3, HT.out] at hx
      simp only [Prod.mk.injEq, Sv.St.mk.injEq] at hx
      obtain ⟨rfl, rfl, _⟩ := hx
      subst q3
      have h2' : CD t n1 ((m + 1) + 1) (p + 1) ts2 q := h2
      have hI := HI.out n1 (m + 1) (p + 1) ts2 q w hn1 h2'
      clear HU HT h2 h2' q0 b0 q1 b1 q2 b2
      go_enter Tryz.func44, Tryz.ntmps44
      go_wp2_with fail
      refine hI.mono ?_
      rintro e w1 ⟨ts', n', p', rfl, hn', hp', hcd, hev, hw⟩
      subst hw
      clear hI
      go_wp2_with fail
      have hI2 := HI.out n' m p' ts' q w1 (by omega) hcd
      refine hI2.mono ?_
      rintro e w2 ⟨ts3, n3, p3, rfl, hn3, hp3, hcd3, hev3, hw⟩
      subst hw
      clear hI2 HI hcd
      have Hc := hid hcd3
      clear hcd3
      have hfin : Hid (Sv.ev r (Sv.tm0 3 :: ts2) = (Sv.hd (Sv.ev r ts2) || Sv.hd (Sv.ev r ts')) :: (Sv.ev r ts').tail) := by
        unfold Hid; rw [hev.out]; rfl
      generalize Sv.hd (Sv.ev r ts2) = x1 at *
      generalize Sv.hd (Sv.ev r ts') = x2 at *
      cases x1
      all_goals
        go_wp2_with fail
        go_ret2
        rw [hfin.out]
        exact ⟨ts3, n3, p3, rfl, by omega, by omega, Hc.out, by unfold Hid; rw [hev3.out]; rfl, rfl⟩
    have b3 : (c == 124) = false := by simp [q3]
    have e11 : (p : Int) + 1 < (t.size : Int) → True := fun _ => trivial
    by_cases q4 : c = 110
    · have hx := HU.out; rw [if_neg q0, if_neg q1, if_neg q2, if_neg q3, if_pos q4, HT.out] at hx
      have hs := Sv.short_res t 0 (p + 1) (by rw [← hx])
      obtain ⟨s1, s2, s3, s4, s5⟩ := hs
      rw [s1] at hx
      simp only [Prod.mk.injEq, Sv.St.mk.injEq] at hx
      obtain ⟨rfl, rfl, _⟩ := hx
      subst q4
      have hwr := wordAt_range hr (by omega : (0 : Int) ≤ 0) (by omega)
      have hfin : Hid (Sv.ev r (⟨4, 0, 0, 65535, Sv.relCode (Sv.byteAt t (p + 1)), 0, Sv.numN t (p + 1 + 1) 4⟩ :: ts2) = Sv.relB (Sv.byteAt t (p + 1)) (Sv.wordAt r 0) (Sv.numN t (p + 2) 4) :: Sv.ev r ts2) := by
        unfold Hid; rw [← Sv.cmp_short r 0 _ _ hwr.1 hwr.2 s2]; rfl
      have h1 : p + 1 < t.size := by omega
      have B1 : ((t[p + 1]'h1).toNat : Int) = Sv.byteAt t (p + 1) := (byteAt_in h1).symm
      have hN : ∀ w, Calls Tryz.prog 45 #[.string t, .int .i64 ((p : Int) + 2), .int .i64 4] w fun e w' => e = .returned (.int .i64 (Sv.numN t (p + 2) 4)) ∧ w' = w := fun w => number_at w t p 2 4 (by omega) (by omega) ht
      have hb := fun w => bytes2 w r 0 hr (by omega) (by omega)
      have hR := fun w => related_any w (Sv.byteAt t (p + 1)) (Sv.wordAt r 0) (Sv.numN t (p + 2) 4)
      have f1 : (p : Int) + 1 < (t.size : Int) := by omega
      have f2 : (0 : Int) ≤ (p : Int) + 1 := by omega
      have f3 : ((p : Int) + 1).toNat = p + 1 := by omega
      have H2 := hid h2
      clear HU HT h2 HI q0 b0 q1 b1 q2 b2 q3 b3 s1 s2 s4 s5 hwr e11
      generalize Sv.relB (Sv.byteAt t (p + 1)) (Sv.wordAt r 0) (Sv.numN t (p + 2) 4) = bb at *
      generalize Sv.byteAt t (p + 1) = C at *
      generalize Sv.wordAt r 0 = W at *
      go_enter Tryz.func44, Tryz.ntmps44
      go_wp2_with fail
      refine (hN _).mono ?_
      rintro e w1 ⟨rfl, hw⟩
      subst hw
      clear hN
      go_wp2_with fail
      refine (hb _).mono ?_
      rintro e w1 ⟨rfl, hw⟩
      subst hw
      clear hb
      go_wp2_with fail
      refine (hR _).mono ?_
      rintro e w1 ⟨rfl, hw⟩
      subst hw
      clear hR
      go_wp2_with fail
      go_ret2
      rw [hfin.out]
      exact ⟨ts2, n1, p + 1 + 5, by simp [Sv.hd]; omega, by omega, by omega, H2.out, rfl, rfl⟩
    have b4 : (c == 110) = false := by simp [q4]
    by_cases q5 : c = 104
    · have hx := HU.out; rw [if_neg q0, if_neg q1, if_neg q2, if_neg q3, if_neg q4, if_pos q5, HT.out] at hx
      have hs := Sv.short_res t 2 (p + 1) (by rw [← hx])
      obtain ⟨s1, s2, s3, s4, s5⟩ := hs
      rw [s1] at hx
      simp only [Prod.mk.injEq, Sv.St.mk.injEq] at hx
      obtain ⟨rfl, rfl, _⟩ := hx
      subst q5
      have hwr := wordAt_range hr (by omega : (0 : Int) ≤ 2) (by omega)
      have hfin : Hid (Sv.ev r (⟨4, 2, 0, 65535, Sv.relCode (Sv.byteAt t (p + 1)), 0, Sv.numN t (p + 1 + 1) 4⟩ :: ts2) = Sv.relB (Sv.byteAt t (p + 1)) (Sv.wordAt r 2) (Sv.numN t (p + 2) 4) :: Sv.ev r ts2) := by
        unfold Hid; rw [← Sv.cmp_short r 2 _ _ hwr.1 hwr.2 s2]; rfl
      have h1 : p + 1 < t.size := by omega
      have B1 : ((t[p + 1]'h1).toNat : Int) = Sv.byteAt t (p + 1) := (byteAt_in h1).symm
      have hN : ∀ w, Calls Tryz.prog 45 #[.string t, .int .i64 ((p : Int) + 2), .int .i64 4] w fun e w' => e = .returned (.int .i64 (Sv.numN t (p + 2) 4)) ∧ w' = w := fun w => number_at w t p 2 4 (by omega) (by omega) ht
      have hb := fun w => bytes2 w r 2 hr (by omega) (by omega)
      have hR := fun w => related_any w (Sv.byteAt t (p + 1)) (Sv.wordAt r 2) (Sv.numN t (p + 2) 4)
      have f1 : (p : Int) + 1 < (t.size : Int) := by omega
      have f2 : (0 : Int) ≤ (p : Int) + 1 := by omega
      have f3 : ((p : Int) + 1).toNat = p + 1 := by omega
      have H2 := hid h2
      clear HU HT h2 HI q0 b0 q1 b1 q2 b2 q3 b3 q4 b4 s1 s2 s4 s5 hwr e11
      generalize Sv.relB (Sv.byteAt t (p + 1)) (Sv.wordAt r 2) (Sv.numN t (p + 2) 4) = bb at *
      generalize Sv.byteAt t (p + 1) = C at *
      generalize Sv.wordAt r 2 = W at *
      go_enter Tryz.func44, Tryz.ntmps44
      go_wp2_with fail
      refine (hN _).mono ?_
      rintro e w1 ⟨rfl, hw⟩
      subst hw
      clear hN
      go_wp2_with fail
      refine (hb _).mono ?_
      rintro e w1 ⟨rfl, hw⟩
      subst hw
      clear hb
      go_wp2_with fail
      refine (hR _).mono ?_
      rintro e w1 ⟨rfl, hw⟩
      subst hw
      clear hR
      go_wp2_with fail
      go_ret2
      rw [hfin.out]
      exact ⟨ts2, n1, p + 1 + 5, by simp [Sv.hd]; omega, by omega, by omega, H2.out, rfl, rfl⟩
    have b5 : (c == 104) = false := by simp [q5]
    by_cases q6 : c = 97
    · have hx := HU.out; rw [if_neg q0, if_neg q1, if_neg q2, if_neg q3, if_neg q4, if_neg q5, if_pos q6, HT.out] at hx
      have hs := Sv.argument_res t (p + 1) (by rw [← hx])
      obtain ⟨d0, d1, hs⟩ := hs
      subst q6
      have hk0 : 0 ≤ 4 + 4 * (Sv.byteAt t (p + 1) - 48) := by omega
      have hk1 : 4 + 4 * (Sv.byteAt t (p + 1) - 48) ≤ 16 := by omega
      have g0 := wordAt_range hr hk0 (by omega)
      have g1 := wordAt_range hr (by omega : 0 ≤ 4 + 4 * (Sv.byteAt t (p + 1) - 48) + 2) (by omega)
      rcases hs with ⟨hc, hp20, m1, m2, v1, v2, heq⟩ | ⟨hc, hrel, hp11, v1, v2, heq⟩
      · rw [heq] at hx
        simp only [Prod.mk.injEq, Sv.St.mk.injEq] at hx
        obtain ⟨rfl, rfl, _⟩ := hx
        have n8 := Sv.numN_8 t (p + 3)
        have n12 := Sv.numN_8 t (p + 12)
        have m1' : 0 ≤ Sv.numN t (p + 3) 4 ∧ Sv.numN t (p + 3) 4 < 65536 := m1
        have m2' : 0 ≤ Sv.numN t (p + 3 + 4) 4 ∧ Sv.numN t (p + 3 + 4) 4 < 65536 := m2
        have hA := refArg_mask w t r p ht hr (by omega) d0 d1 hc (by omega) (by omega)
        have hfin : Hid (Sv.ev r (⟨4, 4 + 4 * (Sv.byteAt t (p + 1) - 48), Sv.numN t (p + 1 + 2) 4, Sv.numN t (p + 1 + 6) 4, 0, Sv.numN t (p + 1 + 11) 4, Sv.numN t (p + 1 + 15) 4⟩ :: ts2) =
            (Sv.land (argV r (Sv.byteAt t (p + 1))) (Sv.numN t (p + 3) 8) == Sv.numN t (p + 12) 8) :: Sv.ev r ts2) := by
          unfold Hid
          rw [n8, n12]
          have := Sv.cmp_mask r (4 + 4 * (Sv.byteAt t (p + 1) - 48)) (Sv.numN t (p + 1 + 2) 4) (Sv.numN t (p + 1 + 6) 4) (Sv.numN t (p + 1 + 11) 4) (Sv.numN t (p + 1 + 15) 4) g0.1 g0.2 g1.1 m1.1 m2.1 m2.2 v2.1 v2.2
          show Sv.cmp r _ :: Sv.ev r ts2 = _
          rw [this]
          rfl
        have H2 := hid h2
        clear HU HT h2 HI q0 q1 q2 q3 q4 q5 b0 b1 b2 b3 b4 b5 e11 heq m1 m2 v1 v2 n8 n12 m1' m2' g0 g1 hk0 hk1
        generalize (Sv.land (argV r (Sv.byteAt t (p + 1))) (Sv.numN t (p + 3) 8) == Sv.numN t (p + 12) 8) = bb at *
        go_enter Tryz.func44, Tryz.ntmps44
        go_wp2_with fail
        refine hA.mono ?_
        rintro e w1 ⟨rfl, hw⟩
        subst hw
        clear hA
        go_wp2_with fail
        go_ret2
        rw [hfin.out]
        exact ⟨ts2, n1, p + 1 + 19, by simp [Sv.hd]; omega, by omega, by omega, H2.out, rfl, rfl⟩
      · rw [heq] at hx
        simp only [Prod.mk.injEq, Sv.St.mk.injEq] at hx
        obtain ⟨rfl, rfl, _⟩ := hx
        have n8 := Sv.numN_8 t (p + 3)
        have hA := refArg_rel w t r p ht hr (by omega) d0 d1 hc
        have hfin : Hid (Sv.ev r (⟨4, 4 + 4 * (Sv.byteAt t (p + 1) - 48), 65535, 65535, Sv.relCode (Sv.byteAt t (p + 1 + 1)), Sv.numN t (p + 1 + 2) 4, Sv.numN t (p + 1 + 6) 4⟩ :: ts2) =
            Sv.relB (Sv.byteAt t (p + 2)) (argV r (Sv.byteAt t (p + 1))) (Sv.numN t (p + 3) 8) :: Sv.ev r ts2) := by
          unfold Hid
          rw [n8]
          have := Sv.cmp_arg r (4 + 4 * (Sv.byteAt t (p + 1) - 48)) (Sv.byteAt t (p + 1 + 1)) (Sv.numN t (p + 1 + 2) 4) (Sv.numN t (p + 1 + 6) 4) g0.1 g0.2 g1.1 g1.2 v2.1 v2.2 hrel
          show Sv.cmp r _ :: Sv.ev r ts2 = _
          rw [this]
          rfl
        have H2 := hid h2
        clear HU HT h2 HI q0 q1 q2 q3 q4 q5 b0 b1 b2 b3 b4 b5 e11 heq v1 v2 n8 g0 g1 hk0 hk1 hrel hc
        generalize Sv.relB (Sv.byteAt t (p + 2)) (argV r (Sv.byteAt t (p + 1))) (Sv.numN t (p + 3) 8) = bb at *
        go_enter Tryz.func44, Tryz.ntmps44
        go_wp2_with fail
        refine hA.mono ?_
        rintro e w1 ⟨rfl, hw⟩
        subst hw
        clear hA
        go_wp2_with fail
        go_ret2
        rw [hfin.out]
        exact ⟨ts2, n1, p + 1 + 10, by simp [Sv.hd]; omega, by omega, by omega, H2.out, rfl, rfl⟩
    · have hx := HU.out; rw [if_neg q0, if_neg q1, if_neg q2, if_neg q3, if_neg q4, if_neg q5, if_neg q6, HT.out] at hx
      simp only [Prod.mk.injEq, Sv.St.mk.injEq] at hx
      cases hx.2.2
end Go.Proofs.YtpamlgdopmjooaaGreat
namespace Go.Proofs.YtpamlgdopmjooaaGreat
open Go.RowKit
set_option linter.unusedVariables false
set_option linter.unusedSimpArgs false

/-- rules and the default are read from p on, unfailed: the verdict -/
structure RD (t r : ByteArray) (n p : Nat) (v : Int) : Prop where
  le : p ≤ t.size
  fuel : t.size + 1 ≤ p + n
  okk : (Sv.word t (Sv.need t 46 (Sv.rules t n ⟨p, false⟩).2)).2.f = false
  ver : v = Sv.verdict r (Sv.word t (Sv.need t 46 (Sv.rules t n ⟨p, false⟩).2)).1 (Sv.rules t n ⟨p, false⟩).1

theorem need_f {t : ByteArray} {b : Int} (hb : 0 ≤ b) {s : Sv.St} (h : (Sv.need t b s).f = false) : s.f = false := by
  cases hf : s.f
  · rfl
  · rw [Sv.need_stays t b hb s hf] at h; cases h
theorem word_f {t : ByteArray} {s : Sv.St} (h : (Sv.word t s).2.f = false) : s.f = false := by
  cases hf : s.f
  · rfl
  · rw [Sv.word_stays t s hf] at h; cases h
theorem st_eta {s : Sv.St} (h : s.f = false) : s = ⟨s.p, false⟩ := by obtain ⟨p, f⟩ := s; simp only at h; rw [h]

/-- at a question mark: a condition, then the rest -/
theorem RD.go {t r : ByteArray} {n p : Nat} {v : Int} (h : RD t r n p v) (hc : Sv.byteAt t p = 63) :
    ∃ n' ts q, p + 1 ≤ t.size ∧ CD t (t.size + 1) 1 (p + 1) ts q ∧ p + 1 ≤ q ∧ q + 5 ≤ t.size ∧ RD t r n' (q + 5) (Sv.verdict r (Sv.word t (Sv.need t 46 (Sv.rules t n' ⟨q + 5, false⟩).2)).1 (Sv.rules t n' ⟨q + 5, false⟩).1) ∧
      v = (if Sv.holds r ts = true then Sv.numN t (q + 1) 4 else Sv.verdict r (Sv.word t (Sv.need t 46 (Sv.rules t n' ⟨q + 5, false⟩).2)).1 (Sv.rules t n' ⟨q + 5, false⟩).1) := by
  obtain ⟨n', rfl⟩ : ∃ n', n = n' + 1 := ⟨n - 1, by have := h.le; have := h.fuel; omega⟩
  have hlk : Sv.look t ⟨p, false⟩ = 63 := hc
  have hlt : p < t.size := Sv.lt_of_byteAt (by omega)
  have hgo := rules_go t n' ⟨p, false⟩ hlk
  have hok := h.okk
  have hver := h.ver
  rw [hgo] at hok hver
  simp only at hok hver
  have hRp := Sv_rule_p t ⟨p + 1, false⟩ hlt
  have hf1 := need_f (by omega) (word_f hok)
  have hf2 : (Sv.rule t ⟨p + 1, false⟩).2.f = false := by
    cases hf : (Sv.rule t ⟨p + 1, false⟩).2.f
    · rfl
    · rw [Sv.rules_keep t n' _ hf] at hf1
      simp only at hf1
      rw [hf] at hf1; cases hf1
  have hw : (Sv.word t (Sv.need t 58 (Sv.condition t ⟨p + 1, false⟩).2)).2.f = false := hf2
  have hn := word_f hw
  have hcf := need_f (by omega) hn
  have hcp := Sv_condition_p t ⟨p + 1, false⟩ hlt
  have he := st_eta hcf
  generalize hC : Sv.condition t ⟨p + 1, false⟩ = C at *
  obtain ⟨ts, ⟨q, f⟩⟩ := C
  simp only at hcf hcp hn hw he
  subst hcf
  obtain ⟨_, hn2⟩ := Sv.need_res t 58 q hn
  rw [hn2] at hw
  obtain ⟨hw1, hw2, hw3, hw4⟩ := Sv.word_ok t (q + 1) hw
  have hrule : Sv.rule t ⟨p + 1, false⟩ = ((ts, Sv.numN t (q + 1) 4), ⟨q + 5, false⟩) := by
    unfold Sv.rule
    rw [hC]
    simp only
    rw [hn2, hw1]
  rw [hrule] at hok hver
  simp only at hok hver
  refine ⟨n', ts, q, hlt, ⟨hC, hlt, by omega⟩, hcp.2, by omega, ⟨by omega, ?_, hok, rfl⟩, ?_⟩
  · have := h.fuel; have := hcp.2; omega
  · rw [hver]; rfl

/-- at a full stop: the default -/
theorem RD.stop {t r : ByteArray} {n p : Nat} {v : Int} (h : RD t r n p v) (hc : Sv.byteAt t p ≠ 63) : v = Sv.numN t (p + 1) 4 ∧ p + 5 ≤ t.size ∧ p < t.size := by
  have hlk : Sv.look t ⟨p, false⟩ ≠ 63 := hc
  have hst := rules_stop t n ⟨p, false⟩ hlk
  have hok := h.okk
  have hver := h.ver
  rw [hst] at hok hver
  simp only at hok hver
  obtain ⟨hb, hn2⟩ := Sv.need_res t 46 p (word_f hok)
  rw [hn2] at hok hver
  obtain ⟨hw1, hw2, hw3, hw4⟩ := Sv.word_ok t (p + 1) hok
  rw [hw1] at hver
  exact ⟨hver, by omega, by omega⟩

set_option maxRecDepth 100000 in
set_option maxHeartbeats 2000000 in
theorem refJudge_any (w : World) (t r : ByteArray) (ht : t.size ≤ maxLen) (hm : r.size ≤ maxLen) :
    Calls Tryz.prog 23 #[.string t, .string r] w fun e w' => e = .returned (.tuple #[.int .i64 (Sv.judge t r).1, .int .i64 (Sv.judge t r).2]) ∧ w' = w := by
  have hC := fun w => refCheck_any w t ht
  rw [refCheck_eq] at hC
  unfold maxLen at hm
  by_cases hl : 600 < t.size
  · have hv : Hid (Sv.judge t r = (0, 1)) := by unfold Hid Sv.judge; rw [if_pos hl]
    have hck : Sv.check t = (1, 0) := by unfold Sv.check; rw [if_pos hl]
    rw [hck] at hC
    clear hck hl ht
    go_enter Tryz.func23, Tryz.ntmps23
    go_wp2_with fail
    refine (hC _).mono ?_
    rintro e w1 ⟨rfl, hw⟩
    subst hw
    clear hC
    go_wp2_with fail
    go_ret2
    rw [hv.out]
    exact ⟨rfl, rfl⟩
  · have hs : t.size ≤ 600 := by omega
    by_cases hf : (Sv.policy t ⟨0, false⟩).2.f = true
    · have hv : Hid (Sv.judge t r = (0, 2)) := by unfold Hid Sv.judge; rw [if_neg hl, if_pos hf]
      have hck : Sv.check t = (2, ((Sv.policy t ⟨0, false⟩).2.p : Int)) := by unfold Sv.check; rw [if_neg hl, if_pos hf]
      rw [hck] at hC
      clear hck hl hf ht
      go_enter Tryz.func23, Tryz.ntmps23
      go_wp2_with fail
      refine (hC _).mono ?_
      rintro e w1 ⟨rfl, hw⟩
      subst hw
      clear hC
      go_wp2_with fail
      go_ret2
      rw [hv.out]
      exact ⟨rfl, rfl⟩
    · have hf' : (Sv.policy t ⟨0, false⟩).2.f = false := by simpa using hf
      have hck : Sv.check t = (0, 0) := by unfold Sv.check; rw [if_neg hl, if_neg hf]
      rw [hck] at hC
      have hv0 : Sv.judge t r = if r.size = 20 then (Sv.verdict r (Sv.policy t ⟨0, false⟩).1.2 (Sv.policy t ⟨0, false⟩).1.1, 0) else (0, 9) := by
        unfold Sv.judge; rw [if_neg hl, if_neg hf]
      by_cases hr : r.size = 20
      · have hv : Hid (Sv.judge t r = (Sv.verdict r (Sv.policy t ⟨0, false⟩).1.2 (Sv.policy t ⟨0, false⟩).1.1, 0)) := by unfold Hid; rw [hv0, if_pos hr]
        have hR : RD t r (t.size + 1) 0 (Sv.verdict r (Sv.policy t ⟨0, false⟩).1.2 (Sv.policy t ⟨0, false⟩).1.1) := by
          refine ⟨Nat.zero_le _, by omega, ?_, rfl⟩
          have hx : (Sv.needEnd t (Sv.word t (Sv.need t 46 (Sv.rules t (t.size + 1) ⟨0, false⟩).2)).2).f = false := hf'
          unfold Sv.needEnd at hx
          split at hx
          · cases hx
          · exact hx
        generalize Sv.verdict r (Sv.policy t ⟨0, false⟩).1.2 (Sv.policy t ⟨0, false⟩).1.1 = V at *
        have hne : ((r.size : Int) != 20) = false := by simp; omega
        have Hr := hid hr
        have HR := hid hR
        clear hck hl hf hf' hv0 hr hR ht hm
        go_enter Tryz.func23, Tryz.ntmps23
        go_wp2_with fail
        refine (hC _).mono ?_
        rintro e w1 ⟨rfl, hw⟩
        subst hw
        clear hC
        go_wp2_with fail
        go_loopg [8] (t.size + 1) (fun g i wr => ∃ (n p : Nat), i = .int .i64 p ∧ wr = w1 ∧ t.size + 1 ≤ p + g ∧ RD t r n p V)
        case atStart => exact ⟨t.size + 1, 0, rfl, rfl, by omega, HR.out⟩
        case round =>
          obtain ⟨n, p, rfl, hw, hgk, hRD⟩ := hrel
          subst hw
          have hRD' := hid hRD
          have hlt : p < t.size := by
            by_cases hc : Sv.byteAt t p = 63
            · exact Sv.lt_of_byteAt (by omega)
            · exact (hRD.stop hc).2.2
          have B0 : ((t[p]'hlt).toNat : Int) = Sv.byteAt t p := (byteAt_in hlt).symm
          have e0 : ((p : Int)).toNat = p := by omega
          have e00 : (p : Int) < (t.size : Int) := by omega
          clear hRD
          by_cases hc : Sv.byteAt t p = 63
          · obtain ⟨n', ts, q, hp1, hcd, hpq, hq5, hRD2, hV⟩ := hRD'.out.go hc
            have hH := refHolds_any t r hs Hr.out (t.size + 1) (t.size + 1) 0 (p + 1) ts q wr (Nat.le_refl _) hcd
            have HRD2 := hid hRD2
            have HV := hid hV
            rw [hc] at B0
            clear hRD2 hV hRD' hcd hc HR
            go_wp2_with fail
            refine hH.mono ?_
            rintro e w2 ⟨ts', n2, p2, rfl, hn2, hp2, hcd2, hev, hw⟩
            subst hw
            clear hH
            have hqe : p2 = q := by
              have h1 := hcd2.eq
              rw [cond_stop t _ _ _ (Or.inl (by simp))] at h1
              simp only [Prod.mk.injEq, Sv.St.mk.injEq] at h1
              exact h1.2.1
            subst hqe
            clear hcd2 hev
            have hhold : Sv.hd (Sv.ev r ts) = Sv.holds r ts := rfl
            rw [hhold]
            clear hhold
            cases hb : Sv.holds r ts
            · have HV2 : Hid (V = Sv.verdict r (Sv.word t (Sv.need t 46 (Sv.rules t n' ⟨p2 + 5, false⟩).2)).1 (Sv.rules t n' ⟨p2 + 5, false⟩).1) := by
                unfold Hid; rw [HV.out, hb]; rfl
              clear hb HV
              go_wp2_with fail
              go_roundg (gk - 1)
              case measure => omega
              case rel => exact ⟨n', p2 + 5, by simp, rfl, by omega, by rw [HV2.out]; exact HRD2.out⟩
            · have HV2 : Hid (V = Sv.numN t (p2 + 1) 4) := by unfold Hid; rw [HV.out, hb]; rfl
              have hN : ∀ w, Calls Tryz.prog 45 #[.string t, .int .i64 ((p2 : Int) + 1), .int .i64 4] w fun e w' => e = .returned (.int .i64 (Sv.numN t (p2 + 1) 4)) ∧ w' = w := fun w => number_at w t p2 1 4 (by omega) (by omega) hs
              clear hb HV
              go_wp2_with fail
              refine (hN _).mono ?_
              rintro e w3 ⟨rfl, hw⟩
              subst hw
              clear hN
              go_wp2_with fail
              go_ret2
              rw [hv.out, HV2.out]
              exact ⟨rfl, rfl⟩
          · obtain ⟨hV, hp5, _⟩ := hRD'.out.stop hc
            have hne2 : (Sv.byteAt t p == 63) = false := by simp [hc]
            have HV2 := hid hV
            have hN : ∀ w, Calls Tryz.prog 45 #[.string t, .int .i64 ((p : Int) + 1), .int .i64 4] w fun e w' => e = .returned (.int .i64 (Sv.numN t (p + 1) 4)) ∧ w' = w := fun w => number_at w t p 1 4 (by omega) (by omega) hs
            clear hV hRD' HR hc
            go_wp2_with fail
            refine (hN _).mono ?_
            rintro e w3 ⟨rfl, hw⟩
            subst hw
            clear hN
            go_wp2_with fail
            go_ret2
            rw [hv.out, HV2.out]
            exact ⟨rfl, rfl⟩
      · have hv : Hid (Sv.judge t r = (0, 9)) := by unfold Hid; rw [hv0, if_neg hr]
        have hne : ((r.size : Int) != 20) = true := by simp; omega
        clear hck hl hf hf' hv0 hr ht
        go_enter Tryz.func23, Tryz.ntmps23
        go_wp2_with fail
        refine (hC _).mono ?_
        rintro e w1 ⟨rfl, hw⟩
        subst hw
        clear hC
        go_wp2_with fail
        go_ret2
        rw [hv.out]
        exact ⟨rfl, rfl⟩
end Go.Proofs.YtpamlgdopmjooaaGreat
