/- sievelaw: the book of the lists that came out. -/
import Derived.Test.YtpamlgdopmjooaaGreatCd2
import Derived.Test.YtpamlgdopmjooaaGreatGLw
namespace Go.Proofs.YtpamlgdopmjooaaGreat
open Go.RowKit
set_option linter.unusedVariables false
set_option linter.unusedSimpArgs false

theorem uLs : Tryz.prog.underlying 26 = some (.slice 29) := by kernel_rfl
theorem iSl_ex : ∃ i, Tryz.prog.info? 29 = some i ∧ i.zero = some (.slice none 0 0) ∧ i.size = 1 ∧ i.bytes = 24 := info_ex (by kernel_rfl)
/-- the mark of the list k -/
def markIn (k : Nat) : Sc.In := ⟨-1, 0, 0, k⟩
def fsV (x : Option Addr × Nat) : Value := .slice x.1 x.2 x.2
/-- the book: its lists, each written full -/
def BookInv (w : World) (base bb : Nat) (fs : List (Option Addr × Nat)) : Prop :=
  ∃ pa pc, Blk w bb 28 #[.slice pa fs.length pc] ∧ w.ownsRow base 29 1 (.slice pa fs.length pc) fs.length (fs.map fsV) ∧
    ∀ k (h : k < fs.length), w.ownsRow base 35 4 (fsV fs[k]) fs[k].2 (insCells (List.replicate fs[k].2 (markIn k))) ∧ fs[k].2 ≤ 1024
theorem BookInv.keep {w w' : World} {base bb : Nat} {fs : List (Option Addr × Nat)} (h : BookInv w base bb fs) (hg : w.grownBy w' none) : BookInv w' base bb fs := by
  obtain ⟨pa, pc, h1, h2, h3⟩ := h
  exact ⟨pa, pc, h1.keep hg (by simp), kept_none h2 hg, fun k hk => ⟨kept_none (h3 k hk).1 hg, (h3 k hk).2⟩⟩
theorem owns_val {w : World} {base : Nat} {pa : Option Addr} {n pc : Nat} {fs : List Value} (hn : n = fs.length) (h : w.ownsRow base 29 1 (.slice pa n pc) n fs) (k : Nat) (hk : k < fs.length) :
    ∃ g, pa = some ⟨g, 0, none⟩ ∧ base ≤ g ∧ g < w.heap.size ∧ w.cell? ⟨g, k, none⟩ = some fs[k] := by
  rcases h.2 with ⟨h1, h2⟩ | ⟨g, cap, cur, h1, h2, h3, h4, h5, h6, h7⟩
  · omega
  · simp only [Value.slice.injEq] at h1
    refine ⟨g, h1.1, h2, (Array.getElem?_eq_some_iff.1 h3).1, ?_⟩
    have e1 : w.cell? ⟨g, k, none⟩ = cur[k]? := by simp [World.cell?, h3]
    have e2 : (cur.toList.take (n * 1))[k]? = cur.toList[k]? := List.getElem?_take_of_lt (by omega)
    rw [e1, ← Array.getElem?_toList, ← e2, h7, List.getElem?_eq_getElem hk]

set_option maxRecDepth 100000 in
set_option maxHeartbeats 4000000 in
theorem bookHolds_inv (w : World) (base bb : Nat) (fs : List (Option Addr × Nat)) (h : BookInv w base bb fs) (hn : fs.length ≤ 5864062014805) :
    Calls Tryz.prog 13 #[.pointer (some ⟨bb, 0, none⟩)] w fun e w' => e = .returned (.bool true) ∧ w' = w := by
  obtain ⟨pa, pc, h1, h2, h3⟩ := h
  have H2 := hid h2
  have H3 := hid h3
  have c0 := h1.cell 0
  simp at c0
  clear h1 h2 h3
  go_enter Tryz.func13, Tryz.ntmps13
  go_wp2_with fail
  go_loop [3] (fun i => ∃ k : Nat, k ≤ fs.length ∧ i = .int .i64 k) (fun i => fs.length - (intOf i).toNat)
  case atStart => exact ⟨0, Nat.zero_le _, rfl⟩
  case round =>
    obtain ⟨k, hk, rfl⟩ := hrel
    by_cases hlt : k < fs.length
    · obtain ⟨pg, rfl, hpb, hpl, hpc⟩ := owns_val (by simp) H2.out k (by simpa using hlt)
      have hrow := (H3.out k hlt).1
      have hc24 := (H3.out k hlt).2
      rw [List.getElem_map] at hpc
      generalize fs[k] = x at *
      obtain ⟨sa, c⟩ := x
      simp only [fsV] at hpc hrow hc24
      have Hrow := hid hrow
      clear hrow
      go_wp2_with fail
      go_loop [5] (fun i => ∃ j : Nat, j ≤ c ∧ i = .int .i64 j) (fun i => c - (intOf i).toNat)
      case atStart => exact ⟨0, Nat.zero_le _, rfl⟩
      case round =>
        obtain ⟨j, hj, rfl⟩ := hrel
        by_cases hjc : j < c
        · obtain ⟨g, rfl, hgb, hgl, hcell⟩ := owns_in (by simp) Hrow.out j (by simpa using hjc)
          rw [List.getElem_replicate] at hcell
          have t0 := hcell 0 (by omega)
          have t1 := hcell 1 (by omega)
          have t2 := hcell 2 (by omega)
          have t3 := hcell 3 (by omega)
          simp [inCells, markIn] at t0 t1 t2 t3
          clear hcell
          go_wp2_with fail
          go_round
          case rel => exact ⟨j + 1, by omega, by go_num⟩
          case measure => simp [intOf]; omega
        · have hjn : c ≤ j := by omega
          go_wp2_with fail
          go_round
          case rel => exact ⟨k + 1, by omega, by go_num⟩
          case measure => simp [intOf]; omega
    · have hkn : fs.length ≤ k := by omega
      go_wp2_with fail
      go_ret
      exact ⟨rfl, rfl⟩
end Go.Proofs.YtpamlgdopmjooaaGreat
