/- Improves: the walk. -/
import Derived.Test.YteimonhjddeghaaGreatIp2
namespace Go.Proofs.YteimonhjddeghaaGreat
open Go.RowKit
set_option linter.unusedVariables false
set_option linter.unusedSimpArgs false

set_option maxRecDepth 100000 in
set_option maxHeartbeats 1000000 in
theorem plays_improve (w : World) (bb : Nat) (o : Opr) (hk : o.kind = 7) (ho : OprOk o) :
    Calls Tryz.prog 10 #[.pointer (some ⟨bb, 0, none⟩), .agg (opCells o)] w fun e w' => e = .returned (.bool true) ∧ w.grownBy w' none := by
  have hT := hid (fun w => lImprove_any w o ho)
  obtain ⟨kind, n, s, p, r, la, ll, lc⟩ := o
  simp only at hk
  subst hk
  simp only [opCells] at hT ⊢
  clear ho
  go_enter Tryz.func10, Tryz.ntmps10
  go_wp2_with fail
  refine (hT.out _).mono ?_
  rintro e w1 ⟨rfl, hg⟩
  clear hT
  go_wp2_with fail
  go_ret
  exact ⟨rfl, gb_unalloc hg⟩

set_option maxHeartbeats 1000000 in
theorem improves_walk (w : World) (sa : Option Addr) (sc : Nat) (ops : List Opr) (hops : OpsAt w sa ops) (hlen : ops.length ≤ maxLen) :
    Calls Tryz.prog 8 #[.slice sa ops.length sc] w fun e w' => e = .returned (.bool true) ∧ Below w.heap.size w w' := by
  have hU := upTo_any w sa sc ops hops hlen 7 7 (fun w bb o h1 h2 ho => plays_improve w bb o (by omega) ho)
  clear hops
  go_enter Tryz.func8, Tryz.ntmps8
  go_wp2_with fail
  refine hU.mono ?_
  rintro e w1 ⟨rfl, hg⟩
  clear hU
  go_wp2_with fail
  go_ret
  exact ⟨rfl, gb_below hg⟩
end Go.Proofs.YteimonhjddeghaaGreat
