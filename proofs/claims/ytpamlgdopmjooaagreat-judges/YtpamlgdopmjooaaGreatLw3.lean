import Derived.Test.YtpamlgdopmjooaaGreatGRf
namespace Go.Proofs.YtpamlgdopmjooaaGreat
open Go.RowKit
set_option linter.unusedVariables false
set_option linter.unusedSimpArgs false

set_option maxRecDepth 100000 in
set_option maxHeartbeats 1000000 in
theorem texts_judge (w : World) (o : Opr) (hk : o.kind = 2) (ho : OprOk o) :
    Calls Tryz.prog 14 #[.agg (opCells o)] w fun e w' => e = .returned (.bool true) ∧ w.grownBy w' none := by
  obtain ⟨kind, n, s, p, r, la, ll, lc⟩ := o
  obtain ⟨h1, h2, h3⟩ := ho
  simp only at hk h1 h2 h3
  subst hk
  simp only [opCells]
  have hC := fun w => judge_any w s r h1 h3
  have hR := fun w => refJudge_any w s r h1 h3
  generalize Sv.judge s r = X at *
  obtain ⟨a, b⟩ := X
  simp only at hC hR
  go_enter Tryz.func14, Tryz.ntmps14
  go_wp2_with fail
  refine (hC _).mono ?_
  rintro e w1 ⟨rfl, hg⟩
  have B0 := (Blk.new w 31 #[.int .i64 2, .int .i64 n, .string s, .string p, .string r, .slice la ll lc]).keep hg (by simp)
  have c2 := B0.cell 2
  have c4 := B0.cell 4
  simp at c2 c4
  clear hC
  go_wp2_with fail
  refine (hR _).mono ?_
  rintro e w2 ⟨rfl, rfl⟩
  clear hR
  go_wp2_with fail
  refine (num_any _ _).mono ?_
  rintro e w2 ⟨rfl, rfl⟩
  go_wp2_with fail
  go_ret
  exact ⟨by simp, gb_unalloc hg⟩

set_option maxRecDepth 100000 in
set_option maxHeartbeats 1000000 in
theorem plays_judge (w : World) (bb : Nat) (o : Opr) (hk : o.kind = 2) (ho : OprOk o) :
    Calls Tryz.prog 12 #[.pointer (some ⟨bb, 0, none⟩), .agg (opCells o)] w fun e w' => e = .returned (.bool true) ∧ w.grownBy w' none := by
  have hT := fun w => texts_judge w o hk ho
  obtain ⟨kind, n, s, p, r, la, ll, lc⟩ := o
  simp only at hk
  subst hk
  simp only [opCells] at hT ⊢
  go_enter Tryz.func12, Tryz.ntmps12
  go_wp2_with fail
  refine (hT _).mono ?_
  rintro e w1 ⟨rfl, hg⟩
  clear hT
  go_wp2_with fail
  go_ret
  exact ⟨rfl, gb_unalloc hg⟩

set_option maxHeartbeats 1000000 in
theorem judges_walk (w : World) (sa : Option Addr) (sc : Nat) (ops : List Opr) (hops : OpsAt w sa ops) (hlen : ops.length ≤ maxLen) :
    Calls Tryz.prog 4 #[.slice sa ops.length sc] w fun e w' => e = .returned (.bool true) ∧ Below w.heap.size w w' := by
  have hU := upTo_any w sa sc ops hops hlen 2 2 (fun w bb o h1 h2 ho => plays_judge w bb o (by omega) ho)
  clear hops
  go_enter Tryz.func4, Tryz.ntmps4
  go_wp2_with fail
  refine hU.mono ?_
  rintro e w1 ⟨rfl, hg⟩
  clear hU
  go_wp2_with fail
  go_ret
  exact ⟨rfl, gb_below hg⟩
end Go.Proofs.YtpamlgdopmjooaaGreat
