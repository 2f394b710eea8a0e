/- sievelaw: whole, encode. -/
import Derived.Test.YtpamlgdopmjooaaGreatCl2
import Derived.Test.YtpamlgdopmjooaaGreatCd6
import Derived.Test.YtpamlgdopmjooaaGreatGLw
namespace Go.Proofs.YtpamlgdopmjooaaGreat
open Go.RowKit
set_option linter.unusedVariables false
set_option linter.unusedSimpArgs false

theorem InsAt.of_blk {w : World} {g : Nat} {L M : List Sc.In} (h : Blk w g 35 (insCells (L ++ M)).toArray) : InsAt w (some ⟨g, 0, none⟩) L := by
  intro i hi
  refine ⟨g, 0, rfl, h.lt, fun j hj => ?_⟩
  rw [h.cell]
  simp only [List.getElem?_toArray]
  rw [Nat.zero_add, insCells_at (L ++ M) i j (by simp; omega) hj, List.getElem_append_left hi]
theorem lentCells {w : World} {g : Nat} {L : List Sc.In} (h : Blk w g 35 (insCells (L ++ [bynd, bynd])).toArray) (i j : Nat) (hi : i < 2) (hj : j < 4) : w.cell? ⟨g, (L.length + i) * 4 + j, none⟩ = (inCells bynd)[j]? := by
  rw [h.cell]
  simp only [List.getElem?_toArray]
  rw [insCells_at (L ++ [bynd, bynd]) (L.length + i) j (by simp; omega) hj, List.getElem_append_right (by omega)]
  have : L.length + i - L.length = 0 ∨ L.length + i - L.length = 1 := by omega
  rcases this with e | e <;> simp [e]

set_option maxRecDepth 100000 in
set_option maxHeartbeats 4000000 in
theorem whole_any (w : World) (g : Nat) (la : Option Addr) (lc : Nat) (L : List Sc.In) (hB : Blk w g 35 (insCells (L ++ [bynd, bynd])).toArray) (hI : InsAt w la L) (hb : L.length * 32 ≤ 140737488351232) :
    Calls Tryz.prog 31 #[.slice (some ⟨g, 0, none⟩) L.length (L.length + 2), .slice la L.length lc] w fun e w' => e = .returned (.bool true) ∧ w.grownBy w' none := by
  have hS := lSame_any w (some ⟨g, 0, none⟩) la (L.length + 2) lc L (InsAt.of_blk hB) hI (by unfold maxLen; omega)
  have HB := hid hB
  clear hI hB
  go_enter Tryz.func31, Tryz.ntmps31
  go_wp2_with fail
  refine hS.mono ?_
  rintro e w1 ⟨rfl, hg1⟩
  clear hS
  have hB1 := HB.out.keep hg1 (by simp)
  have y0 := lentCells hB1 0 0 (by omega) (by omega)
  have y1 := lentCells hB1 0 1 (by omega) (by omega)
  have y2 := lentCells hB1 0 2 (by omega) (by omega)
  have y3 := lentCells hB1 0 3 (by omega) (by omega)
  have z0 := lentCells hB1 1 0 (by omega) (by omega)
  have z1 := lentCells hB1 1 1 (by omega) (by omega)
  have z2 := lentCells hB1 1 2 (by omega) (by omega)
  have z3 := lentCells hB1 1 3 (by omega) (by omega)
  simp [inCells, bynd] at y0 y1 y2 y3 z0 z1 z2 z3
  have hgl := hB1.lt
  have HG1 := hid hg1
  have Hy := hid beyond_any
  simp only [inCells, bynd] at Hy
  clear hB1 hg1 HB
  have i0 : (0 : Int) ≤ (L.length : Int) + 1 := by omega
  have i1 : (L.length : Int) + 1 < (L.length : Int) + 2 := by omega
  have i2 : ((L.length : Int) + 1).toNat = L.length + 1 := by omega
  have i3 : (L.length : Int) < (L.length : Int) + 2 := by omega
  have i6 : wrap64 ((L.length : Int) + 1) = (L.length : Int) + 1 := IntWalk.wrap64_in _ ⟨by omega, by omega⟩
  have i7 : IntKind.i64.wrap ((L.length : Int) + 1) = (L.length : Int) + 1 := IntWalk.i64_in _ ⟨by omega, by omega⟩
  have i4 : (L.length : Int) + 1 < ((L.length + 2 : Nat) : Int) := by omega
  have i5 : L.length + 1 < L.length + 2 := by omega
  go_wp2_with fail
  go_region_with (go_at_call 50; refine (Hy.out _).mono ?_; rintro e w' ⟨rfl, rfl⟩)
  all_goals
    clear y0 y1 y2 y3 z0 z1 z2 z3 Hy i0 i1 i2 i3 i4 i5 i6 i7
    go_wp2_with fail
    go_ret
    exact ⟨rfl, gb_drew (gb_alloc (gb_alloc HG1.out _) _)⟩
end Go.Proofs.YtpamlgdopmjooaaGreat
