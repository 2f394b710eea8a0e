import Derived.Test.YtldongbimhngfaaAt3
namespace Go.Proofs.Ytldongbimhngfaa
open Go.RowKit
set_option linter.unusedVariables false

theorem atoms_walk (w : World) (lr : Option Addr) (nr cr : Nat) (zr : Nat → Int) (wh c hg mk : Int) (hR : RawRow w w.heap.size lr nr zr) (mr : nr ≤ maxLen)
    (w0 : -9223372036854775808 ≤ wh) (w1 : wh ≤ 9223372036854775807) (c0 : -9223372036854775808 ≤ c) (c1 : c ≤ 9223372036854775807)
    (g0 : -9223372036854775808 ≤ hg) (g1 : hg ≤ 9223372036854775807) (k0 : -9223372036854775808 ≤ mk) (k1 : mk ≤ 9223372036854775807) :
    Calls Try.prog 5 #[.int .i64 wh, .slice lr nr cr, .int .i64 c, .int .i64 hg, .int .i64 mk] w fun e w' => e = .returned (.bool true) ∧ Below w.heap.size w w' := by
  have hp := pk_range wh 6 (by omega)
  by_cases h : pk wh 6 ≤ 3
  · exact atoms_lo w lr nr cr zr wh c hg mk hR mr w0 w1 c0 c1 g0 g1 k0 k1 (pk wh 6) hp.1 h rfl
  · exact atoms_hi w lr nr cr zr wh c hg mk hR mr w0 w1 c0 c1 (pk wh 6 - 4).toNat (by omega) (by omega)
end Go.Proofs.Ytldongbimhngfaa
