import Derived.Test.YtpamlgdopmjooaaGreatRf2
namespace Go.Proofs.YtpamlgdopmjooaaGreat
open Go.RowKit
set_option linter.unusedVariables false
set_option linter.unusedSimpArgs false

set_option maxRecDepth 100000 in
set_option maxHeartbeats 1000000 in
theorem check_rules (w : World) (t : ByteArray) (ht : t.size ≤ maxLen) :
    Calls Tryz.prog 41 #[.string t] w fun e w' => e = .returned (.tuple #[.int .i64 (Sv.check t).1, .int .i64 (Sv.check t).2]) ∧ w.grownBy w' none := by
  by_cases hl : 600 < t.size
  · have hv : Hid (Sv.check t = (1, 0)) := by unfold Hid Sv.check; rw [if_pos hl]
    have hP := parse_long w t ht hl
    clear hl
    go_enter Tryz.func41, Tryz.ntmps41
    go_wp2_with fail
    refine hP.mono ?_
    rintro e w1 ⟨rfl, hg⟩
    clear hP
    go_wp2_with fail
    go_ret2
    rw [hv.out]
    exact ⟨rfl, gb_alloc hg _⟩
  · have hs : t.size ≤ 600 := by omega
    by_cases hf : (Sv.policy t ⟨0, false⟩).2.f = true
    · have hv : Hid (Sv.check t = (2, ((Sv.policy t ⟨0, false⟩).2.p : Int))) := by unfold Hid Sv.check; rw [if_neg hl, if_pos hf]
      have hP := parse_form w t hs hf
      clear hl hf
      go_enter Tryz.func41, Tryz.ntmps41
      go_wp2_with fail
      refine hP.mono ?_
      rintro e w1 ⟨rfl, hg⟩
      clear hP
      go_wp2_with fail
      go_ret2
      rw [hv.out]
      exact ⟨rfl, gb_alloc hg _⟩
    · have hf' : (Sv.policy t ⟨0, false⟩).2.f = false := by simpa using hf
      have hv : Hid (Sv.check t = (0, 0)) := by unfold Hid Sv.check; rw [if_neg hl, if_neg hf]
      have hP := parse_ok w t hs hf'
      clear hl hf hf'
      go_enter Tryz.func41, Tryz.ntmps41
      go_wp2_with fail
      refine hP.mono ?_
      rintro e w1 ⟨pa, pc, rfl, hg, hpol⟩
      clear hP hpol
      go_wp2_with fail
      go_ret2
      rw [hv.out]
      exact ⟨rfl, gb_alloc hg _⟩

set_option maxHeartbeats 1000000 in
theorem check_any (w : World) (t : ByteArray) (ht : t.size ≤ maxLen) :
    Calls Tryz.prog 19 #[.string t] w fun e w' => e = .returned (.tuple #[.int .i64 (Sv.check t).1, .int .i64 (Sv.check t).2]) ∧ w.grownBy w' none := by
  have hJ := check_rules w t ht
  generalize Sv.check t = X at *
  obtain ⟨a, b⟩ := X
  go_enter Tryz.func19, Tryz.ntmps19
  go_wp2_with fail
  refine hJ.mono ?_
  rintro e w1 ⟨rfl, hg⟩
  clear hJ
  go_wp2_with fail
  go_ret2
  exact ⟨rfl, hg⟩

theorem num_any (w : World) (a : Int) : Calls Tryz.prog 21 #[.int .i64 a] w fun e w' => e = .returned (.int .i64 a) ∧ w' = w := by
  go_enter Tryz.func21, Tryz.ntmps21
  go_wp2
  go_ret
  exact ⟨rfl, rfl⟩

/-- a step of a script -/
structure Opr where
  kind : Int
  n : Int
  s : ByteArray
  p : ByteArray
  r : ByteArray
  la : Option Addr
  ll : Nat
  lc : Nat
def opCells (o : Opr) : Array Value := #[.int .i64 o.kind, .int .i64 o.n, .string o.s, .string o.p, .string o.r, .slice o.la o.ll o.lc]
/-- what is known of a step that came in -/
def OprOk (o : Opr) : Prop := o.s.size ≤ maxLen ∧ (o.p.size ≤ maxLen ∧ -9223372036854775808 ≤ o.n ∧ o.n ≤ 9223372036854775807) ∧ o.r.size ≤ maxLen

set_option maxRecDepth 100000 in
set_option maxHeartbeats 1000000 in
theorem texts_check (w : World) (o : Opr) (hk : o.kind = 1) (ho : OprOk o) :
    Calls Tryz.prog 14 #[.agg (opCells o)] w fun e w' => e = .returned (.bool true) ∧ w.grownBy w' none := by
  obtain ⟨kind, n, s, p, r, la, ll, lc⟩ := o
  obtain ⟨h1, h2, h3⟩ := ho
  simp only at hk h1 h2 h3
  subst hk
  simp only [opCells]
  have hC := fun w => check_any w s h1
  have hR := fun w => refCheck_any w s h1
  rw [refCheck_eq] at hR
  generalize Sv.check s = X at *
  obtain ⟨a, b⟩ := X
  simp only at hC hR
  go_enter Tryz.func14, Tryz.ntmps14
  go_wp2_with fail
  refine (hC _).mono ?_
  rintro e w1 ⟨rfl, hg⟩
  have B0 := (Blk.new w 31 #[.int .i64 1, .int .i64 n, .string s, .string p, .string r, .slice la ll lc]).keep hg (by simp)
  have c2 := B0.cell 2
  simp at c2
  clear hC
  go_wp2_with fail
  refine (hR _).mono ?_
  rintro e w2 ⟨rfl, rfl⟩
  clear hR
  go_wp2_with fail
  refine (num_any _ _).mono ?_
  rintro e w2 ⟨rfl, rfl⟩
  go_wp2_with fail
  go_ret
  exact ⟨by simp, gb_unalloc hg⟩

set_option maxRecDepth 100000 in
set_option maxHeartbeats 1000000 in
theorem plays_check (w : World) (bb : Nat) (o : Opr) (hk : o.kind = 1) (ho : OprOk o) :
    Calls Tryz.prog 12 #[.pointer (some ⟨bb, 0, none⟩), .agg (opCells o)] w fun e w' => e = .returned (.bool true) ∧ w.grownBy w' none := by
  have hT := fun w => texts_check w o hk ho
  obtain ⟨kind, n, s, p, r, la, ll, lc⟩ := o
  simp only at hk
  subst hk
  simp only [opCells] at hT ⊢
  go_enter Tryz.func12, Tryz.ntmps12
  go_wp2_with fail
  refine (hT _).mono ?_
  rintro e w1 ⟨rfl, hg⟩
  clear hT
  go_wp2_with fail
  go_ret
  exact ⟨rfl, gb_unalloc hg⟩

/-- the book has no list yet -/
def BookAt (w : World) (bb : Nat) : Prop := Blk w bb 28 #[.slice none 0 0]
set_option maxHeartbeats 1000000 in
theorem bookHolds_any (w : World) (bb : Nat) (h : BookAt w bb) :
    Calls Tryz.prog 13 #[.pointer (some ⟨bb, 0, none⟩)] w fun e w' => e = .returned (.bool true) ∧ w' = w := by
  have c0 := h.cell 0
  simp at c0
  go_enter Tryz.func13, Tryz.ntmps13
  go_wp2_with fail
  go_loop [3] (fun k => k = .int .i64 0) (fun _ => 0)
  case atStart => rfl
  case round =>
    subst hrel
    go_wp2_with fail
    go_ret
    exact ⟨rfl, rfl⟩
end Go.Proofs.YtpamlgdopmjooaaGreat
namespace Go.Proofs.YtpamlgdopmjooaaGreat
open Go.RowKit
set_option linter.unusedVariables false
set_option linter.unusedSimpArgs false

/-- a script as it lies -/
def OpsAt (w : World) (sa : Option Addr) (ops : List Opr) : Prop :=
  ∀ i (hi : i < ops.length), OprOk ops[i] ∧ ∃ b off, sa = some ⟨b, off, none⟩ ∧ b < w.heap.size ∧ ∀ j, j < 6 → w.cell? ⟨b, off + i * 6 + j, none⟩ = (opCells ops[i])[j]?

set_option maxRecDepth 100000 in
set_option maxHeartbeats 1000000 in
theorem upTo_any (w : World) (sa : Option Addr) (sc : Nat) (ops : List Opr) (hops : OpsAt w sa ops) (hlen : ops.length ≤ maxLen) (lo hi : Int)
    (H : ∀ (w : World) (bb : Nat) (o : Opr), lo ≤ o.kind → o.kind ≤ hi → OprOk o → Calls Tryz.prog 12 #[.pointer (some ⟨bb, 0, none⟩), .agg (opCells o)] w fun e w' => e = .returned (.bool true) ∧ w.grownBy w' none) :
    Calls Tryz.prog 11 #[.slice sa ops.length sc, .int .i64 lo, .int .i64 hi] w fun e w' => e = .returned (.int .i64 (-1)) ∧ w.grownBy w' none := by
  unfold maxLen at hlen
  have HH := hid H
  have HO := hid hops
  clear H hops
  go_enter Tryz.func11, Tryz.ntmps11
  go_wp2_with fail
  go_loopw [8] (fun i wr => ∃ k : Nat, k ≤ ops.length ∧ i = .int .i64 k ∧ w.grownBy wr none ∧ BookAt wr w.heap.size) (fun i _ => ops.length - (intOf i).toNat)
  case atStart => exact ⟨0, Nat.zero_le _, rfl, gb_alloc (gb_refl _ _) _, Blk.new w _ _⟩
  case round =>
    obtain ⟨k, hk, rfl, hg, hB⟩ := hrel
    have HG := hid hg
    have HB := hid hB
    have hz := hB.lt
    clear hg hB
    by_cases hlt : k < ops.length
    · obtain ⟨hok, b, off, rfl, hbl, hcell⟩ := HO.out k hlt
      have hbr : b < wr.heap.size := Nat.lt_of_lt_of_le hbl HG.out.size
      have hcw : ∀ j, j < 6 → wr.cell? ⟨b, off + k * 6 + j, none⟩ = (opCells ops[k])[j]? := fun j hj =>
        (World.cell?_of_block (a := ⟨b, off + k * 6 + j, none⟩) (HG.out.block b hbl (by simp))).trans (hcell j hj)
      have HP := fun w bb => HH.out w bb ops[k]
      generalize ops[k] = o at *
      obtain ⟨kind, n, s, p, r, la, ll, lc⟩ := o
      have t0 := hcw 0 (by omega)
      have t1 := hcw 1 (by omega)
      have t2 := hcw 2 (by omega)
      have t3 := hcw 3 (by omega)
      have t4 := hcw 4 (by omega)
      have t5 := hcw 5 (by omega)
      simp [opCells] at t0 t1 t2 t3 t4 t5
      clear hcw hcell HO HH
      have HPh := hid HP
      clear HP
      by_cases q1 : lo ≤ kind
      · by_cases q2 : kind ≤ hi
        · have d1 : decide (lo ≤ kind) = true := by simp [q1]
          have d2 : decide (kind ≤ hi) = true := by simp [q2]
          go_wp2_with fail
          have hP := HPh.out (wr.alloc (.cells #[.int .i64 kind, .int .i64 n, .string s, .string p, .string r, .slice la ll lc] 31)) w.heap.size q1 q2 hok
          simp only [opCells] at hP
          refine hP.mono ?_
          rintro e w1 ⟨rfl, hg1⟩
          clear hP
          have hB1 : BookAt w1 w.heap.size := (Blk.alloc HB.out _).keep hg1 (by simp)
          go_wp2_with fail
          refine (bookHolds_any _ _ hB1).mono ?_
          rintro e w2 ⟨rfl, rfl⟩
          have HB1 := hid hB1
          have Hg1 := hid (gb_trans (gb_alloc HG.out _) hg1)
          clear hB1 hg1
          go_wp2_with fail
          go_roundw
          case rel => exact ⟨k + 1, by omega, by go_num, Hg1.out, HB1.out⟩
          case measure => simp [intOf]; omega
        · have d1 : decide (lo ≤ kind) = true := by simp [q1]
          have d2 : decide (kind ≤ hi) = false := by simp; omega
          go_wp2_with fail
          go_roundw
          case rel => exact ⟨k + 1, by omega, by go_num, gb_alloc HG.out _, Blk.alloc HB.out _⟩
          case measure => simp [intOf]; omega
      · have d1 : decide (lo ≤ kind) = false := by simp; omega
        go_wp2_with fail
        go_roundw
        case rel => exact ⟨k + 1, by omega, by go_num, gb_alloc HG.out _, Blk.alloc HB.out _⟩
        case measure => simp [intOf]; omega
    · have hge : ops.length ≤ k := by omega
      go_wp2_with fail
      go_ret
      exact ⟨rfl, HG.out⟩

set_option maxHeartbeats 1000000 in
theorem checks_walk (w : World) (sa : Option Addr) (sc : Nat) (ops : List Opr) (hops : OpsAt w sa ops) (hlen : ops.length ≤ maxLen) :
    Calls Tryz.prog 3 #[.slice sa ops.length sc] w fun e w' => e = .returned (.bool true) ∧ Below w.heap.size w w' := by
  have hU := upTo_any w sa sc ops hops hlen 1 1 (fun w bb o h1 h2 ho => plays_check w bb o (by omega) ho)
  clear hops
  go_enter Tryz.func3, Tryz.ntmps3
  go_wp2_with fail
  refine hU.mono ?_
  rintro e w1 ⟨rfl, hg⟩
  clear hU
  go_wp2_with fail
  go_ret
  exact ⟨rfl, gb_below hg⟩
end Go.Proofs.YtpamlgdopmjooaaGreat
