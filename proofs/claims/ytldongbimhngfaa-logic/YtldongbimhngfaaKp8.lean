import Derived.Test.YtldongbimhngfaaKp7
namespace Go.Proofs.Ytldongbimhngfaa
open Go.RowKit
set_option linter.unusedVariables false
set_option linter.unusedSimpArgs false

/-- what Cond makes: a condition, whatever stands behind it -/
theorem condT_any (w : World) (la : Option Addr) (ll lc : Nat) (z : Nat → Int) (hR : RawRow w w.heap.size la ll z) (hll : ll ≤ maxLen) :
    Calls Try.prog 14 #[.slice la ll lc] w fun e w' => ∃ (T : ByteArray) (ts : List Sv.Tm) (v : ByteArray → List Bool), e = .returned (.string T) ∧ CondReads T.data.toList ts 1 ∧ EvOf ts 1 v ∧ T.size ≤ 116 ∧ w.grownBy w' none := by
  refine (condM_any w la ll lc z hR hll).mono ?_
  rintro e w1 ⟨T, n1, rfl, hD1, hT, hg1⟩
  obtain ⟨ts, c, rest, n', v, _, hcr, hrest, hCR, hEv⟩ := der_cond n1 n1 1 [] T.data.toList (Nat.le_refl _) hD1
  have hrn : rest = [] := by
    cases n' with
    | zero => exact hrest.2
    | succ n' => obtain ⟨_, _, _, _, _, hh, _⟩ := hrest; simp at hh
  subst hrn
  rw [List.append_nil] at hcr
  subst hcr
  exact ⟨T, ts, v, rfl, hCR, hEv, hT, hg1⟩

theorem cond_split (t : ByteArray) (n : Nat) : ∀ (m k p : Nat) (ts : List Sv.Tm) (q : Nat), Sv.cond t n m ⟨p, false⟩ = (ts, ⟨q, false⟩) → p ≤ t.size → t.size + 1 ≤ p + n →
    ∃ n1, t.size + 1 ≤ q + n1 ∧ Sv.cond t n ((m + k : Nat) : Int) ⟨p, false⟩ = (ts ++ (Sv.cond t n1 k ⟨q, false⟩).1, (Sv.cond t n1 k ⟨q, false⟩).2) := by
  induction n with
  | zero => intro m k p ts q h hp hn; omega
  | succ n ih =>
    intro m k p ts q h hp hn
    cases m with
    | zero =>
      rw [cond_stop t _ _ _ (Or.inl (by simp))] at h
      simp only [Prod.mk.injEq, Sv.St.mk.injEq] at h
      obtain ⟨rfl, rfl, _⟩ := h
      exact ⟨n + 1, hn, by simp⟩
    | succ m =>
      rw [cond_go t n _ ⟨p, false⟩ (by omega) rfl] at h
      rw [cond_go t n _ ⟨p, false⟩ (by omega) rfl]
      have hr := parts_range (Sv.term t ⟨p, false⟩).1.kind
      have e1 : ((m + 1 : Nat) : Int) - 1 + Sv.parts (Sv.term t ⟨p, false⟩).1.kind = ((m + (Sv.parts (Sv.term t ⟨p, false⟩).1.kind).toNat : Nat) : Int) := by omega
      have e2 : ((m + 1 + k : Nat) : Int) - 1 + Sv.parts (Sv.term t ⟨p, false⟩).1.kind = ((m + (Sv.parts (Sv.term t ⟨p, false⟩).1.kind).toNat + k : Nat) : Int) := by omega
      rw [e1] at h
      rw [e2]
      have hp1 := Sv_term_p t ⟨p, false⟩ hp
      have ha := term_adv t ⟨p, false⟩
      generalize Sv.term t ⟨p, false⟩ = X at *
      obtain ⟨x, ⟨p1, f⟩⟩ := X
      simp only at h hp1 ha ⊢
      cases f
      · have h1 : Sv.cond t n ((m + (Sv.parts x.kind).toNat : Nat) : Int) ⟨p1, false⟩ = ((Sv.cond t n ((m + (Sv.parts x.kind).toNat : Nat) : Int) ⟨p1, false⟩).1, ⟨q, false⟩) := by
          have := congrArg Prod.snd h
          exact Prod.ext rfl this
        have h2 := congrArg Prod.fst h
        obtain ⟨n1, g1, g2⟩ := ih (m + (Sv.parts x.kind).toNat) k p1 _ q h1 hp1 (by have := ha rfl; omega)
        refine ⟨n1, g1, ?_⟩
        rw [g2]
        simp only at h2 ⊢
        rw [← h2]
        rfl
      · rw [cond_stop t _ _ _ (Or.inr rfl)] at h
        cases h
theorem CondReads.two {c d : List UInt8} {ts us : List Sv.Tm} (h1 : CondReads c ts 1) (h2 : CondReads d us 1) : CondReads (c ++ d) (ts ++ us) 2 := by
  intro t p n hA hp hn
  have e1 := h1 t p n hA.left hp hn
  have hle : p + c.length ≤ t.size := hA.left.le' hp
  obtain ⟨n1, g1, g2⟩ := cond_split t n 1 1 p ts (p + c.length) e1 hp hn
  have e2 := h2 t (p + c.length) n1 hA.right hle g1
  have g3 : Sv.cond t n ((1 + 1 : Nat) : Int) ⟨p, false⟩ = (ts ++ us, ⟨p + (c ++ d).length, false⟩) := by
    rw [g2]
    have e3 : Sv.cond t n1 ((1 : Nat) : Int) ⟨p + c.length, false⟩ = (us, ⟨p + c.length + d.length, false⟩) := e2
    rw [e3]
    simp [Nat.add_assoc]
  exact g3
theorem CondReads.neg {c : List UInt8} {ts : List Sv.Tm} (h : CondReads c ts 1) : CondReads ([33] ++ c) (Sv.tm0 1 :: ts) 1 := CondReads.cons (m := 0) (k := 1) term_N (by simp) rfl h
theorem CondReads.and {c d : List UInt8} {ts us : List Sv.Tm} (h1 : CondReads c ts 1) (h2 : CondReads d us 1) : CondReads ([38] ++ (c ++ d)) (Sv.tm0 2 :: (ts ++ us)) 1 := CondReads.cons (m := 0) (k := 2) term_A (by simp) rfl (h1.two h2)
theorem CondReads.or {c d : List UInt8} {ts us : List Sv.Tm} (h1 : CondReads c ts 1) (h2 : CondReads d us 1) : CondReads ([124] ++ (c ++ d)) (Sv.tm0 3 :: (ts ++ us)) 1 := CondReads.cons (m := 0) (k := 2) term_O (by simp) rfl (h1.two h2)
theorem EvOf.ev {ts : List Sv.Tm} {v : ByteArray → List Bool} (h : EvOf ts 1 v) (r : ByteArray) (rest : List Sv.Tm) : Sv.ev r (ts ++ rest) = Sv.holds r ts :: Sv.ev r rest := by
  rw [(h r).2 rest, holds_of h r]; rfl
theorem hN_not {ts : List Sv.Tm} {v : ByteArray → List Bool} (h : EvOf ts 1 v) (r : ByteArray) : hN r (Sv.tm0 1 :: ts) = 1 - hN r ts := by
  have e := h.ev r []
  rw [List.append_nil] at e
  have : Sv.holds r (Sv.tm0 1 :: ts) = !(Sv.holds r ts) := by
    show Sv.hd ((!(Sv.hd (Sv.ev r ts))) :: (Sv.ev r ts).tail) = _
    rw [e]; rfl
  unfold hN; rw [this]
  cases Sv.holds r ts <;> rfl
theorem hN_and {ts us : List Sv.Tm} {v u : ByteArray → List Bool} (h : EvOf ts 1 v) (g : EvOf us 1 u) (r : ByteArray) : hN r (Sv.tm0 2 :: (ts ++ us)) = hN r ts * hN r us := by
  have e := h.ev r us
  have e2 := g.ev r []
  rw [List.append_nil] at e2
  have : Sv.holds r (Sv.tm0 2 :: (ts ++ us)) = (Sv.holds r ts && Sv.holds r us) := by
    show Sv.hd ((Sv.hd (Sv.ev r (ts ++ us)) && Sv.hd (Sv.ev r (ts ++ us)).tail) :: (Sv.ev r (ts ++ us)).tail.tail) = _
    rw [e, e2]; rfl
  unfold hN; rw [this]
  cases Sv.holds r ts <;> cases Sv.holds r us <;> rfl
theorem hN_or {ts us : List Sv.Tm} {v u : ByteArray → List Bool} (h : EvOf ts 1 v) (g : EvOf us 1 u) (r : ByteArray) : hN r (Sv.tm0 3 :: (ts ++ us)) = hN r ts + hN r us - hN r ts * hN r us := by
  have e := h.ev r us
  have e2 := g.ev r []
  rw [List.append_nil] at e2
  have : Sv.holds r (Sv.tm0 3 :: (ts ++ us)) = (Sv.holds r ts || Sv.holds r us) := by
    show Sv.hd ((Sv.hd (Sv.ev r (ts ++ us)) || Sv.hd (Sv.ev r (ts ++ us)).tail) :: (Sv.ev r (ts ++ us)).tail.tail) = _
    rw [e, e2]; rfl
  unfold hN; rw [this]
  cases Sv.holds r ts <;> cases Sv.holds r us <;> rfl

theorem RawRow.later {w w1 : World} {a : Option Addr} {len : Nat} {z : Nat → Int} (h : RawRow w w.heap.size a len z) (hg : w.grownBy w1 none) : RawRow w1 w1.heap.size a len z := by
  intro i hi
  obtain ⟨b, off, h1, h2, h3, h4⟩ := (h.keep hg (Nat.le_refl _) (fun _ h => by cases h)) i hi
  exact ⟨b, off, h1, by have := hg.size; omega, h3, h4⟩

set_option maxRecDepth 100000 in
set_option maxHeartbeats 4000000 in
theorem logic_walk (w : World) (la lb lr : Option Addr) (na ca nb cb nr cr : Nat) (za zb zr : Nat → Int) (hA : RawRow w w.heap.size la na za) (hB : RawRow w w.heap.size lb nb zb) (hR : RawRow w w.heap.size lr nr zr)
    (ma : na ≤ maxLen) (mb : nb ≤ maxLen) (mr : nr ≤ maxLen) :
    Calls Try.prog 4 #[.slice la na ca, .slice lb nb cb, .slice lr nr cr] w fun e w' => e = .returned (.bool true) ∧ Below w.heap.size w w' := by
  have hC := condT_any w la na ca za hA ma
  have HB := hid hB
  have HR := hid hR
  clear hA hB hR
  go_enter Try.func4, Try.ntmps4
  go_wp2_with fail
  refine hC.mono ?_
  clear hC
  rintro e w1 ⟨T, ts, v, rfl, hCR, hEv, hT, hg1⟩
  have HC := hid hCR
  have HE := hid hEv
  clear hCR hEv
  have hS := condT_any w1 lb nb cb zb (HB.out.later hg1) mb
  go_wp2_with fail
  refine hS.mono ?_
  clear hS
  rintro e w2 ⟨U, us, u, rfl, hCR, hEv, hU, hg2⟩
  have HC2 := hid hCR
  have HE2 := hid hEv
  clear hCR hEv
  have hg12 := gb_trans hg1 hg2
  have hRc := record_any w2 lr nr cr zr (HR.out.later hg12) mr
  clear hg1 hg2
  go_wp2_with fail
  refine hRc.mono ?_
  clear hRc
  rintro e w3 ⟨rfl, hg3⟩
  have hr20 := rec_size nr zr
  generalize (⟨(recB nr zr 10).toArray⟩ : ByteArray) = r at *
  have Hr := hid hr20
  have Hg := hid (gb_trans hg12 hg3)
  clear hr20 hg12 hg3 HB HR
  have a1 := hid (fun w => asked_any w T r ts HC.out (by omega) Hr.out)
  have a2 := hid (fun w => asked_any w U r us HC2.out (by omega) Hr.out)
  have hz3 : (ByteArray.mk #[33] ++ T).size ≤ 500 := by simp only [ByteArray.size_append]; show 1 + T.size ≤ 500; omega
  have hz4 : (ByteArray.mk #[38] ++ T ++ U).size ≤ 500 := by simp only [ByteArray.size_append]; show 1 + T.size + U.size ≤ 500; omega
  have hz5 : (ByteArray.mk #[124] ++ T ++ U).size ≤ 500 := by simp only [ByteArray.size_append]; show 1 + T.size + U.size ≤ 500; omega
  have a3 := hid (fun w => asked_any w (ByteArray.mk #[33] ++ T) r (Sv.tm0 1 :: ts) (by have := HC.out.neg; simpa using this) hz3 Hr.out)
  have a4 := hid (fun w => asked_any w (ByteArray.mk #[38] ++ T ++ U) r (Sv.tm0 2 :: (ts ++ us)) (by have := HC.out.and HC2.out; simpa using this) hz4 Hr.out)
  have a5 := hid (fun w => asked_any w (ByteArray.mk #[124] ++ T ++ U) r (Sv.tm0 3 :: (ts ++ us)) (by have := HC.out.or HC2.out; simpa using this) hz5 Hr.out)
  have a6 := hid (fun w => asked_any w (ByteArray.mk #[84]) r [Sv.tm0 0] cond_T (by decide) Hr.out)
  have n3 := hN_not HE.out r
  have n4 := hN_and HE.out HE2.out r
  have n5 := hN_or HE.out HE2.out r
  have n6 : hN r [Sv.tm0 0] = 1 := rfl
  rw [n3] at a3
  rw [n4] at a4
  rw [n5] at a5
  rw [n6] at a6
  have o1 := hN_01 r ts
  have o2 := hN_01 r us
  clear n3 n4 n5 n6 hz3 hz4 hz5 HC HC2 HE HE2
  generalize hN r ts = x at *
  generalize hN r us = y at *
  have O1 := hid o1
  have O2 := hid o2
  have ox0 : 0 ≤ x := by omega
  have ox1 : x ≤ 1 := by omega
  have oy0 : 0 ≤ y := by omega
  have oy1 : y ≤ 1 := by omega
  clear o1 o2
  rcases O1.out with rfl | rfl
  all_goals rcases O2.out with rfl | rfl
  all_goals
    go_wp2_with fail
    refine (a1.out _).mono ?_
    rintro e w4 ⟨rfl, hg4⟩
    go_wp2_with fail
    refine (a2.out _).mono ?_
    rintro e w5 ⟨rfl, hg5⟩
    go_wp2_with fail
    refine (a3.out _).mono ?_
    rintro e w6 ⟨rfl, hg6⟩
    go_wp2_with fail
    refine (a4.out _).mono ?_
    rintro e w7 ⟨rfl, hg7⟩
    go_wp2_with fail
    refine (a5.out _).mono ?_
    rintro e w8 ⟨rfl, hg8⟩
    go_wp2_with fail
    refine (a6.out _).mono ?_
    rintro e w9 ⟨rfl, hg9⟩
    go_wp2_with fail
    go_ret
    exact ⟨by simp, gb_below (gb_trans (gb_trans (gb_trans (gb_trans (gb_trans (gb_trans Hg.out hg4) hg5) hg6) hg7) hg8) hg9)⟩
end Go.Proofs.Ytldongbimhngfaa
