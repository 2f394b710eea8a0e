import Derived.Test.YteimonhjddeghaaGreatRf2
namespace Go.Proofs.YteimonhjddeghaaGreat
open Go.RowKit
set_option linter.unusedVariables false
set_option linter.unusedSimpArgs false

set_option maxRecDepth 100000 in
set_option maxHeartbeats 1000000 in
theorem check_rules (w : World) (t : ByteArray) (ht : t.size ≤ maxLen) :
    Calls Tryz.prog 39 #[.string t] w fun e w' => e = .returned (.tuple #[.int .i64 (Sv.check t).1, .int .i64 (Sv.check t).2]) ∧ w.grownBy w' none := by
  by_cases hl : 600 < t.size
  · have hv : Hid (Sv.check t = (1, 0)) := by unfold Hid Sv.check; rw [if_pos hl]
    have hP := parse_long w t ht hl
    clear hl
    go_enter Tryz.func39, Tryz.ntmps39
    go_wp2_with fail
    refine hP.mono ?_
    rintro e w1 ⟨rfl, hg⟩
    clear hP
    go_wp2_with fail
    go_ret2
    rw [hv.out]
    exact ⟨rfl, gb_alloc hg _⟩
  · have hs : t.size ≤ 600 := by omega
    by_cases hf : (Sv.policy t ⟨0, false⟩).2.f = true
    · have hv : Hid (Sv.check t = (2, ((Sv.policy t ⟨0, false⟩).2.p : Int))) := by unfold Hid Sv.check; rw [if_neg hl, if_pos hf]
      have hP := parse_form w t hs hf
      clear hl hf
      go_enter Tryz.func39, Tryz.ntmps39
      go_wp2_with fail
      refine hP.mono ?_
      rintro e w1 ⟨rfl, hg⟩
      clear hP
      go_wp2_with fail
      go_ret2
      rw [hv.out]
      exact ⟨rfl, gb_alloc hg _⟩
    · have hf' : (Sv.policy t ⟨0, false⟩).2.f = false := by simpa using hf
      have hv : Hid (Sv.check t = (0, 0)) := by unfold Hid Sv.check; rw [if_neg hl, if_neg hf]
      have hP := parse_ok w t hs hf'
      clear hl hf hf'
      go_enter Tryz.func39, Tryz.ntmps39
      go_wp2_with fail
      refine hP.mono ?_
      rintro e w1 ⟨pa, pc, rfl, hg, hpol⟩
      clear hP hpol
      go_wp2_with fail
      go_ret2
      rw [hv.out]
      exact ⟨rfl, gb_alloc hg _⟩

set_option maxHeartbeats 1000000 in
theorem check_any (w : World) (t : ByteArray) (ht : t.size ≤ maxLen) :
    Calls Tryz.prog 17 #[.string t] w fun e w' => e = .returned (.tuple #[.int .i64 (Sv.check t).1, .int .i64 (Sv.check t).2]) ∧ w.grownBy w' none := by
  have hJ := check_rules w t ht
  generalize Sv.check t = X at *
  obtain ⟨a, b⟩ := X
  go_enter Tryz.func17, Tryz.ntmps17
  go_wp2_with fail
  refine hJ.mono ?_
  rintro e w1 ⟨rfl, hg⟩
  clear hJ
  go_wp2_with fail
  go_ret2
  exact ⟨rfl, hg⟩

theorem num_any (w : World) (a : Int) : Calls Tryz.prog 19 #[.int .i64 a] w fun e w' => e = .returned (.int .i64 a) ∧ w' = w := by
  go_enter Tryz.func19, Tryz.ntmps19
  go_wp2
  go_ret
  exact ⟨rfl, rfl⟩

/-- a step of a script -/
structure Opr where
  kind : Int
  n : Int
  s : ByteArray
  p : ByteArray
  r : ByteArray
  la : Option Addr
  ll : Nat
  lc : Nat
def opCells (o : Opr) : Array Value := #[.int .i64 o.kind, .int .i64 o.n, .string o.s, .string o.p, .string o.r, .slice o.la o.ll o.lc]
/-- what is known of a step that came in -/
def OprOk (o : Opr) : Prop := o.s.size ≤ maxLen ∧ (o.p.size ≤ maxLen ∧ -9223372036854775808 ≤ o.n ∧ o.n ≤ 9223372036854775807) ∧ o.r.size ≤ maxLen

set_option maxRecDepth 100000 in
set_option maxHeartbeats 1000000 in
theorem texts_check (w : World) (o : Opr) (hk : o.kind = 1) (ho : OprOk o) :
    Calls Tryz.prog 12 #[.agg (opCells o)] w fun e w' => e = .returned (.bool true) ∧ w.grownBy w' none := by
  obtain ⟨kind, n, s, p, r, la, ll, lc⟩ := o
  obtain ⟨h1, h2, h3⟩ := ho
  simp only at hk h1 h2 h3
  subst hk
  simp only [opCells]
  have hC := fun w => check_any w s h1
  have hR := fun w => refCheck_any w s h1
  rw [refCheck_eq] at hR
  generalize Sv.check s = X at *
  obtain ⟨a, b⟩ := X
  simp only at hC hR
  go_enter Tryz.func12, Tryz.ntmps12
  go_wp2_with fail
  refine (hC _).mono ?_
  rintro e w1 ⟨rfl, hg⟩
  have B0 := (Blk.new w 31 #[.int .i64 1, .int .i64 n, .string s, .string p, .string r, .slice la ll lc]).keep hg (by simp)
  have c2 := B0.cell 2
  simp at c2
  clear hC
  go_wp2_with fail
  refine (hR _).mono ?_
  rintro e w2 ⟨rfl, rfl⟩
  clear hR
  go_wp2_with fail
  refine (num_any _ _).mono ?_
  rintro e w2 ⟨rfl, rfl⟩
  go_wp2_with fail
  go_ret
  exact ⟨by simp, gb_unalloc hg⟩

set_option maxRecDepth 100000 in
set_option maxHeartbeats 1000000 in
theorem plays_check (w : World) (bb : Nat) (o : Opr) (hk : o.kind = 1) (ho : OprOk o) :
    Calls Tryz.prog 10 #[.pointer (some ⟨bb, 0, none⟩), .agg (opCells o)] w fun e w' => e = .returned (.bool true) ∧ w.grownBy w' none := by
  have hT := fun w => texts_check w o hk ho
  obtain ⟨kind, n, s, p, r, la, ll, lc⟩ := o
  simp only at hk
  subst hk
  simp only [opCells] at hT ⊢
  go_enter Tryz.func10, Tryz.ntmps10
  go_wp2_with fail
  refine (hT _).mono ?_
  rintro e w1 ⟨rfl, hg⟩
  clear hT
  go_wp2_with fail
  go_ret
  exact ⟨rfl, gb_unalloc hg⟩

/-- the book has no list yet -/
def BookAt (w : World) (bb : Nat) : Prop := Blk w bb 28 #[.slice none 0 0]
set_option maxHeartbeats 1000000 in
theorem bookHolds_any (w : World) (bb : Nat) (h : BookAt w bb) :
    Calls Tryz.prog 11 #[.pointer (some ⟨bb, 0, none⟩)] w fun e w' => e = .returned (.bool true) ∧ w' = w := by
  have c0 := h.cell 0
  simp at c0
  go_enter Tryz.func11, Tryz.ntmps11
  go_wp2_with fail
  go_loop [3] (fun k => k = .int .i64 0) (fun _ => 0)
  case atStart => rfl
  case round =>
    subst hrel
    go_wp2_with fail
    go_ret
    exact ⟨rfl, rfl⟩
end Go.Proofs.YteimonhjddeghaaGreat
