import Derived.Test.YteimonhjddeghaaGreatLw1
namespace Go.Proofs.YteimonhjddeghaaGreat
open Go.RowKit
set_option linter.unusedVariables false
set_option linter.unusedSimpArgs false

/-- a script as it lies -/
def OpsAt (w : World) (sa : Option Addr) (ops : List Opr) : Prop :=
  ∀ i (hi : i < ops.length), OprOk ops[i] ∧ ∃ b off, sa = some ⟨b, off, none⟩ ∧ b < w.heap.size ∧ ∀ j, j < 6 → w.cell? ⟨b, off + i * 6 + j, none⟩ = (opCells ops[i])[j]?

set_option maxRecDepth 100000 in
set_option maxHeartbeats 1000000 in
theorem upTo_any (w : World) (sa : Option Addr) (sc : Nat) (ops : List Opr) (hops : OpsAt w sa ops) (hlen : ops.length ≤ maxLen) (lo hi : Int)
    (H : ∀ (w : World) (bb : Nat) (o : Opr), lo ≤ o.kind → o.kind ≤ hi → OprOk o → Calls Tryz.prog 10 #[.pointer (some ⟨bb, 0, none⟩), .agg (opCells o)] w fun e w' => e = .returned (.bool true) ∧ w.grownBy w' none) :
    Calls Tryz.prog 9 #[.slice sa ops.length sc, .int .i64 lo, .int .i64 hi] w fun e w' => e = .returned (.int .i64 (-1)) ∧ w.grownBy w' none := by
  unfold maxLen at hlen
  have HH := hid H
  have HO := hid hops
  clear H hops
  go_enter Tryz.func9, Tryz.ntmps9
  go_wp2_with fail
  go_loopw [8] (fun i wr => ∃ k : Nat, k ≤ ops.length ∧ i = .int .i64 k ∧ w.grownBy wr none ∧ BookAt wr w.heap.size) (fun i _ => ops.length - (intOf i).toNat)
  case atStart => exact ⟨0, Nat.zero_le _, rfl, gb_alloc (gb_refl _ _) _, Blk.new w _ _⟩
  case round =>
    obtain ⟨k, hk, rfl, hg, hB⟩ := hrel
    have HG := hid hg
    have HB := hid hB
    have hz := hB.lt
    clear hg hB
    by_cases hlt : k < ops.length
    · obtain ⟨hok, b, off, rfl, hbl, hcell⟩ := HO.out k hlt
      have hbr : b < wr.heap.size := Nat.lt_of_lt_of_le hbl HG.out.size
      have hcw : ∀ j, j < 6 → wr.cell? ⟨b, off + k * 6 + j, none⟩ = (opCells ops[k])[j]? := fun j hj =>
        (World.cell?_of_block (a := ⟨b, off + k * 6 + j, none⟩) (HG.out.block b hbl (by simp))).trans (hcell j hj)
      have HP := fun w bb => HH.out w bb ops[k]
      generalize ops[k] = o at *
      obtain ⟨kind, n, s, p, r, la, ll, lc⟩ := o
      have t0 := hcw 0 (by omega)
      have t1 := hcw 1 (by omega)
      have t2 := hcw 2 (by omega)
      have t3 := hcw 3 (by omega)
      have t4 := hcw 4 (by omega)
      have t5 := hcw 5 (by omega)
      simp [opCells] at t0 t1 t2 t3 t4 t5
      clear hcw hcell HO HH
      have HPh := hid HP
      clear HP
      by_cases q1 : lo ≤ kind
      · by_cases q2 : kind ≤ hi
        · have d1 : decide (lo ≤ kind) = true := by simp [q1]
          have d2 : decide (kind ≤ hi) = true := by simp [q2]
          go_wp2_with fail
          have hP := HPh.out (wr.alloc (.cells #[.int .i64 kind, .int .i64 n, .string s, .string p, .string r, .slice la ll lc] 31)) w.heap.size q1 q2 hok
          simp only [opCells] at hP
          refine hP.mono ?_
          rintro e w1 ⟨rfl, hg1⟩
          clear hP
          have hB1 : BookAt w1 w.heap.size := (Blk.alloc HB.out _).keep hg1 (by simp)
          go_wp2_with fail
          refine (bookHolds_any _ _ hB1).mono ?_
          rintro e w2 ⟨rfl, rfl⟩
          have HB1 := hid hB1
          have Hg1 := hid (gb_trans (gb_alloc HG.out _) hg1)
          clear hB1 hg1
          go_wp2_with fail
          go_roundw
          case rel => exact ⟨k + 1, by omega, by go_num, Hg1.out, HB1.out⟩
          case measure => simp [intOf]; omega
        · have d1 : decide (lo ≤ kind) = true := by simp [q1]
          have d2 : decide (kind ≤ hi) = false := by simp; omega
          go_wp2_with fail
          go_roundw
          case rel => exact ⟨k + 1, by omega, by go_num, gb_alloc HG.out _, Blk.alloc HB.out _⟩
          case measure => simp [intOf]; omega
      · have d1 : decide (lo ≤ kind) = false := by simp; omega
        go_wp2_with fail
        go_roundw
        case rel => exact ⟨k + 1, by omega, by go_num, gb_alloc HG.out _, Blk.alloc HB.out _⟩
        case measure => simp [intOf]; omega
    · have hge : ops.length ≤ k := by omega
      go_wp2_with fail
      go_ret
      exact ⟨rfl, HG.out⟩

set_option maxHeartbeats 1000000 in
theorem checks_walk (w : World) (sa : Option Addr) (sc : Nat) (ops : List Opr) (hops : OpsAt w sa ops) (hlen : ops.length ≤ maxLen) :
    Calls Tryz.prog 3 #[.slice sa ops.length sc] w fun e w' => e = .returned (.bool true) ∧ Below w.heap.size w w' := by
  have hU := upTo_any w sa sc ops hops hlen 1 1 (fun w bb o h1 h2 ho => plays_check w bb o (by omega) ho)
  clear hops
  go_enter Tryz.func3, Tryz.ntmps3
  go_wp2_with fail
  refine hU.mono ?_
  rintro e w1 ⟨rfl, hg⟩
  clear hU
  go_wp2_with fail
  go_ret
  exact ⟨rfl, gb_below hg⟩
end Go.Proofs.YteimonhjddeghaaGreat
