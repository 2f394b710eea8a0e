/- sievelaw: lists that are lent. -/
import Derived.Test.YtpamlgdopmjooaaGreatCd2
import Derived.Laws.CopyRow
import Derived.Deep.RegionWith
namespace Go.Proofs.YtpamlgdopmjooaaGreat
open Go.RowKit
set_option linter.unusedVariables false
set_option linter.unusedSimpArgs false

/-- 'copy' into a row of one's own, its elements of more than one cell -/
theorem run_copy_wide {P : Program} (w : World) (dT sT ty elem : TypeId) (g dLen dCap : Nat) (a : Addr) (sLen sCap size : Nat) (cur : Array Value) (t : TypeId) (cs : List Value)
    (hu : P.underlying dT = some (.slice elem)) (i : TypeInfo) (hq : P.info? elem = some i) (hi : i.size = size)
    (hg : w.heap[g]? = some (.cells cur t (0, 0))) (hle : sLen ≤ dLen) (hn : cs.length = sLen * size)
    (hsrc : ∀ j v, cs[j]? = some v → w.cell? (a.add j) = some v) (hfit : cs.length ≤ cur.size) (h1 : ∀ v ∈ cs, v.oneCell' = true) :
    (Builtin.copy_ #[dT, sT] ty #[.slice (some ⟨g, 0, none⟩) dLen dCap, .slice (some a) sLen sCap]).run P w =
      .ok (goInt sLen) (w.setRow g (cs ++ cur.toList.drop cs.length).toArray) := by
  have hl := run_loadCells_list (P := P) w a cs hsrc
  have hst := run_storeCells_at P g 0 t cs 0 cur w hg (by simpa using hfit) h1
  have hmin : Nat.min sLen dLen = sLen := Nat.min_eq_left hle
  rw [hn] at hl
  simp [Builtin.copy_, run_underlying hu, Builtin.lenOf, Builtin.firstCells, sizeOf, typeInfo, hq, hi, hmin, hl, hst]

set_option maxRecDepth 100000 in
set_option maxHeartbeats 2000000 in
theorem lSame_any (w : World) (sa sb : Option Addr) (ca cb : Nat) (L : List Sc.In) (hA : InsAt w sa L) (hB : InsAt w sb L) (hle : L.length ≤ maxLen) :
    Calls Tryz.prog 34 #[.slice sa L.length ca, .slice sb L.length cb] w fun e w' => e = .returned (.bool true) ∧ w.grownBy w' none := by
  unfold maxLen at hle
  have HA := hid hA
  have HB := hid hB
  clear hA hB
  go_enter Tryz.func34, Tryz.ntmps34
  go_wp2_with fail
  go_loopw [5] (fun i wr => ∃ k : Nat, k ≤ L.length ∧ i = .int .i64 k ∧ w.grownBy wr none) (fun i _ => L.length - (intOf i).toNat)
  case atStart => exact ⟨0, Nat.zero_le _, rfl, gb_refl _ _⟩
  case round =>
    obtain ⟨k, hk, rfl, hg⟩ := hrel
    have HG := hid hg
    by_cases hlt : k < L.length
    · obtain ⟨b, off, rfl, hb, hcell⟩ := (HA.out.keep hg) k hlt
      obtain ⟨b', off', rfl, hb', hcell'⟩ := (HB.out.keep hg) k hlt
      generalize L[k] = X at *
      obtain ⟨op, t, f, kk⟩ := X
      have t0 := hcell 0 (by omega)
      have t1 := hcell 1 (by omega)
      have t2 := hcell 2 (by omega)
      have t3 := hcell 3 (by omega)
      have t0' := hcell' 0 (by omega)
      have t1' := hcell' 1 (by omega)
      have t2' := hcell' 2 (by omega)
      have t3' := hcell' 3 (by omega)
      simp [inCells] at t0 t1 t2 t3 t0' t1' t2' t3'
      clear hcell hcell' hg
      go_wp2_with fail
      go_region
      all_goals
        go_wp2_with fail
        go_roundw
        case rel => exact ⟨k + 1, by omega, by go_num, gb_drew HG.out⟩
        case measure => simp [intOf]; omega
    · have hkn : L.length ≤ k := by omega
      clear hg
      go_wp2_with fail
      go_ret
      exact ⟨rfl, HG.out⟩

def bynd : Sc.In := ⟨-7, 7, -7, 7⟩
theorem beyond_any (w : World) :
    Calls Tryz.prog 50 #[] w fun e w' => e = .returned (.agg (inCells bynd)) ∧ w' = w.alloc (.cells (inCells bynd) 35) := by
  go_enter Tryz.func50, Tryz.ntmps50
  go_wp2_with fail
  exact bodyPost_ret (v := .agg (inCells bynd)) (by simp [results, Tryz.results50, go_sem, inCells, bynd]) rfl ⟨rfl, rfl⟩
end Go.Proofs.YtpamlgdopmjooaaGreat
