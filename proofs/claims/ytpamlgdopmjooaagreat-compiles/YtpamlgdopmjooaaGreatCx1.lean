/- The program's Compile keeps P9; Compiles and All: the walks. -/
import Derived.Test.YtpamlgdopmjooaaGreatGCm
import Derived.Test.YtpamlgdopmjooaaGreatGCw
namespace Go.Proofs.YtpamlgdopmjooaaGreat
open Go.RowKit
set_option linter.unusedVariables false
set_option linter.unusedSimpArgs false

theorem compE_eq (pol p : ByteArray) : compE pol p = cmpErr pol p := rfl
theorem comp_spec : CompSpec cmpOut := by
  refine ⟨fun w pol p h1 h2 => compile_any w pol p h1 h2, fun pol p r => ?_, fun pol p h => ?_⟩
  · refine ⟨rfl, fun h => ?_, fun h => ?_, fun h => ?_, fun h hr => ?_⟩
    · unfold cmpOut
      by_cases q : (Sv.check pol).1 = 0
      · rw [if_pos q]
        have : Sc.impErr (bytesOf (compL pol)) p ≠ 0 := by rw [comp_impErr p q]; exact h
        unfold Sc.impOut
        rw [if_neg this]
      · rw [if_neg q]
    · obtain ⟨q, _, _, _⟩ := cmpOut_ok pol p h
      have hl := (compL_sound q).1.1
      rw [cmpOut_plain pol q, (compL_sound q).sound]
      refine ⟨rfl, ?_⟩
      rw [bytesOf_size]
      unfold maxLen
      omega
    · obtain ⟨q, _, e1, e2⟩ := cmpOut_ok pol p h
      rw [cmpOut_plain pol q, e1]
      exact (imp_ok (bytesOf (compL pol)) p r).good e2
    · obtain ⟨q, _, e1, e2⟩ := cmpOut_ok pol p h
      have hB := (imp_ok (bytesOf (compL pol)) p r).good e2
      obtain ⟨hs, hf⟩ := check_zero q
      obtain ⟨c1, c2⟩ := compL_ok pol hs hf
      have hrc := c1.runC r hr
      have herr := hB.err
      have hrun := hB.run (by rw [hrc])
      rw [hrc] at herr hrun
      rw [e1]
      refine ⟨herr.symm, ?_⟩
      rw [← hrun.1]
      show (Sc.runL r (compL pol)).1 = _
      rw [c2 r hr]
      unfold Sv.judge
      rw [if_neg (by omega), if_neg (by rw [hf]; decide), if_pos hr]
  · obtain ⟨q, _, e1, e2⟩ := cmpOut_ok pol p h
    have hl := (compL_sound q).1.1
    rw [cmpOut_plain pol q]
    refine ⟨e2, e1.symm, ?_⟩
    rw [bytesOf_size]
    omega

set_option maxHeartbeats 1000000 in
theorem compiles_walk (w : World) (sa : Option Addr) (sc : Nat) (ops : List Opr) (hops : OpsAt w sa ops) (hlen : ops.length ≤ maxLen) :
    Calls Tryz.prog 9 #[.slice sa ops.length sc] w fun e w' => e = .returned (.bool true) ∧ Below w.heap.size w w' := by
  have hU := upTo_any w sa sc ops hops hlen 8 8 (fun w bb o h1 h2 ho => plays_compile cmpOut comp_spec w bb o (by omega) ho)
  clear hops
  go_enter Tryz.func9, Tryz.ntmps9
  go_wp2_with fail
  refine hU.mono ?_
  rintro e w1 ⟨rfl, hg⟩
  clear hU
  go_wp2_with fail
  go_ret
  exact ⟨rfl, gb_below hg⟩
set_option maxHeartbeats 1000000 in
theorem all_walk (w : World) (sa : Option Addr) (sc : Nat) (ops : List Opr) (hops : OpsAt2 w sa ops) (hlen : ops.length ≤ 1599289640383) :
    Calls Tryz.prog 10 #[.slice sa ops.length sc] w fun e w' => e = .returned (.bool true) ∧ Below w.heap.size w w' := by
  have hU := upTo_inv w sa sc ops hops hlen 1 8 (fun w base bb fs o h1 h2 ho hB hn hbb hbs => plays_all cmpOut comp_spec w base bb fs o h1 h2 ho hB hn hbb hbs)
  clear hops
  go_enter Tryz.func10, Tryz.ntmps10
  go_wp2_with fail
  refine hU.mono ?_
  rintro e w1 ⟨rfl, hg⟩
  clear hU
  go_wp2_with fail
  go_ret
  exact ⟨rfl, hg⟩
end Go.Proofs.YtpamlgdopmjooaaGreat
