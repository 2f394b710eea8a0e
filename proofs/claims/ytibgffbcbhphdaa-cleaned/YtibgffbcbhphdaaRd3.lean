import Derived.Test.YtibgffbcbhphdaaRd2
namespace Go.Proofs.Ytibgffbcbhphdaa
open Go.RowKit
set_option linter.unusedVariables false
set_option linter.unusedSimpArgs false

set_option maxHeartbeats 400000 in
theorem parts_any (w : World) (k : Int) : Calls Try.prog 96 #[.int .i64 k] w fun e w' => e = .returned (.int .i64 (Sv.parts k)) ∧ w' = w := by
  have hcase : k = 1 ∨ k = 2 ∨ k = 3 ∨ (k ≠ 1 ∧ k ≠ 2 ∧ k ≠ 3) := by omega
  rcases hcase with rfl | rfl | rfl | ⟨h1, h2, h3⟩
  · go_enter Try.func96, Try.ntmps96
    go_wp2
    go_ret
    exact ⟨rfl, rfl⟩
  · go_enter Try.func96, Try.ntmps96
    go_wp2
    go_ret
    exact ⟨rfl, rfl⟩
  · go_enter Try.func96, Try.ntmps96
    go_wp2
    go_ret
    exact ⟨rfl, rfl⟩
  · have e1 : (k == 1) = false := by simp [h1]
    have e2 : (k == 2) = false := by simp [h2]
    have e3 : (k == 3) = false := by simp [h3]
    have hv : Hid (Sv.parts k = 0) := by unfold Hid Sv.parts; rw [if_neg h1, if_neg (by omega)]
    clear h1 h2 h3
    go_enter Try.func96, Try.ntmps96
    go_wp2
    go_ret
    rw [hv.out]
    exact ⟨rfl, rfl⟩

set_option maxRecDepth 100000 in
set_option maxHeartbeats 1000000 in
theorem argument_any (w : World) (rb : Nat) (t : ByteArray) (s : Sv.St) (h : RdAt w rb t s) (hp : s.p ≤ t.size) (hs : t.size ≤ 600) :
    Calls Try.prog 105 #[.pointer (some ⟨rb, 0, none⟩)] w fun e w' => e = .returned (.agg (tmCells (Sv.argument t s).1)) ∧ RdEnd w w' rb t (Sv.argument t s).2 := by
  have hrb := h.lt
  have hne : w.heap.size ≠ rb := by omega
  by_cases q : Sv.look t (Sv.index t s).2 = 38
  · have Q : Hid (Sv.look t (Sv.index t s).2 = 38) := q
    go_enter Try.func105, Try.ntmps105
    go_wp2_with fail
    refine (index_any _ rb t s (h.alloc _) hp hs).mono ?_
    rintro e w1 ⟨rfl, hr1, hg1⟩
    clear q
    have hp1 := Sv_index_p t s hp
    have i0 := hp1.2.1
    have i3 := hp1.2.2
    have hz1 : w.heap.size < w1.heap.size := by have := hg1.size; simp at this; omega
    have hne1 : w1.heap.size ≠ rb := by omega
    have B0 := (Blk.new w _ _).keep hg1 (by simpa using hne)
    go_wp2_with fail
    refine (take_yes _ rb t _ 38 (hr1.alloc _) hp1.1 hs Q.out).mono ?_
    rintro e w2 ⟨rfl, hr2, hg2⟩
    have hp2 : (Sv.index t s).2.p + 1 ≤ t.size := look_pos t _ (by rw [Q.out]; omega)
    replace B0 := (B0.alloc _).keep hg2 (by simpa using hne)
    have B1 := (Blk.new w1 _ _).keep hg2 (by simpa using hne1)
    go_wp2_with fail
    refine (value_any _ rb t _ hr2 hp2 hs).mono ?_
    rintro e w3 ⟨rfl, hr3, hg3⟩
    replace B0 := B0.keep hg3 (by simpa using hne)
    replace B1 := B1.keep hg3 (by simpa using hne1)
    have x2 := B1.cell 2
    have x3 := B1.cell 3
    have xf := B1.fz
    simp at x2 x3
    have hp3 := Sv_value_p t ⟨(Sv.index t s).2.p + 1, (Sv.index t s).2.f⟩ hp2
    go_wp2_with fail
    refine (need_any _ rb t _ 61 ((hr3.other hne1 _ _).other hne1 _ _) hp3 hs).mono ?_
    rintro e w4 ⟨rfl, hr4, hg4⟩
    clear x2 x3 xf
    replace B1 := ((B1.set 2 (.int .i64 (Sv.value t ⟨(Sv.index t s).2.p + 1, (Sv.index t s).2.f⟩).1.1)).set 3 (.int .i64 (Sv.value t ⟨(Sv.index t s).2.p + 1, (Sv.index t s).2.f⟩).1.2)).keep hg4 (by simpa using hne1)
    replace B0 := ((B0.other (by omega : w1.heap.size ≠ w.heap.size) _ _).other (by omega : w1.heap.size ≠ w.heap.size) _ _).keep hg4 (by simpa using hne)
    have hp4 := Sv_need_p t 61 _ (by omega) hp3
    go_wp2_with fail
    refine (value_any _ rb t _ hr4 hp4 hs).mono ?_
    rintro e w5 ⟨rfl, hr5, hg5⟩
    replace B0 := B0.keep hg5 (by simpa using hne)
    replace B1 := B1.keep hg5 (by simpa using hne1)
    simp at B1
    have x0 := B1.cell 0
    have x1 := B1.cell 1
    have x2 := B1.cell 2
    have x3 := B1.cell 3
    have x4 := B1.cell 4
    have x5 := B1.cell 5
    have x6 := B1.cell 6
    have xf := B1.fz
    have y0 := B0.cell 0
    have y1 := B0.cell 1
    have y2 := B0.cell 2
    have y3 := B0.cell 3
    have y4 := B0.cell 4
    have y5 := B0.cell 5
    have y6 := B0.cell 6
    have yf := B0.fz
    simp at x0 x1 x2 x3 x4 x5 x6 y0 y1 y2 y3 y4 y5 y6
    have hb01 : w.heap.size ≠ w1.heap.size := by omega
    have hb10 : w1.heap.size ≠ w.heap.size := by omega
    have hv : Hid (Sv.argument t s = (⟨4, 4 + 4 * (Sv.index t s).1, (Sv.value t ⟨(Sv.index t s).2.p + 1, (Sv.index t s).2.f⟩).1.1, (Sv.value t ⟨(Sv.index t s).2.p + 1, (Sv.index t s).2.f⟩).1.2, 0,
      (Sv.value t (Sv.need t 61 (Sv.value t ⟨(Sv.index t s).2.p + 1, (Sv.index t s).2.f⟩).2)).1.1, (Sv.value t (Sv.need t 61 (Sv.value t ⟨(Sv.index t s).2.p + 1, (Sv.index t s).2.f⟩).2)).1.2⟩,
      (Sv.value t (Sv.need t 61 (Sv.value t ⟨(Sv.index t s).2.p + 1, (Sv.index t s).2.f⟩).2)).2)) := by unfold Hid Sv.argument; rw [if_pos Q.out]
    go_wp2_with fail
    refine bodyPost_ret (v := .agg (tmCells (Sv.argument t s).1)) (by rw [hv.out]; simp [results, Try.results105, go_sem, y0, y1, y2, y3, y4, y5, y6, tmCells, hb01, hb10]) rfl ?_
    rw [hv.out]
    exact ⟨rfl, (((((((((hr5).other hne1 _ _).other hne1 _ _).other hne _ _).other hne _ _).other hne _ _).other hne _ _).other hne _ _).other hne _ _).other hne _ _, gb_own (gb_own (gb_own (gb_own (gb_own (gb_own (gb_own (gb_own (gb_own (gb_trans (gb_trans (gb_own (gb_own (gb_trans (gb_trans (gb_alloc (gb_unalloc hg1) _) hg2) hg3) (by omega) _ _) (by omega) _ _) hg4) hg5) (by omega) _ _) (by omega) _ _) (by omega) _ _) (by omega) _ _) (by omega) _ _) (by omega) _ _) (by omega) _ _) (by omega) _ _) (by omega) _ _⟩
  · have Q : Hid (Sv.look t (Sv.index t s).2 ≠ 38) := q
    go_enter Try.func105, Try.ntmps105
    go_wp2_with fail
    refine (index_any _ rb t s (h.alloc _) hp hs).mono ?_
    rintro e w1 ⟨rfl, hr1, hg1⟩
    clear q
    have hp1 := Sv_index_p t s hp
    have i0 := hp1.2.1
    have i3 := hp1.2.2
    have hz1 : w.heap.size < w1.heap.size := by have := hg1.size; simp at this; omega
    have hne1 : w1.heap.size ≠ rb := by omega
    have B0 := (Blk.new w _ _).keep hg1 (by simpa using hne)
    go_wp2_with fail
    refine (take_no _ rb t _ 38 (hr1.alloc _) hp1.1 hs Q.out).mono ?_
    rintro e w2 ⟨rfl, hr2, hg2⟩
    replace B0 := (B0.alloc _).keep hg2 (by simpa using hne)
    have B1 := (Blk.new w1 _ _).keep hg2 (by simpa using hne1)
    go_wp2_with fail
    refine (relation_any _ rb t _ hr2 hp1.1 hs).mono ?_
    rintro e w3 ⟨rfl, hr3, hg3⟩
    replace B0 := B0.keep hg3 (by simpa using hne)
    replace B1 := B1.keep hg3 (by simpa using hne1)
    have x4 := B1.cell 4
    have xf := B1.fz
    simp at x4
    have hp3 := (Sv_relation_p t (Sv.index t s).2 hp1.1).1
    go_wp2_with fail
    refine (value_any _ rb t _ (hr3.other hne1 _ _) hp3 hs).mono ?_
    rintro e w5 ⟨rfl, hr5, hg5⟩
    clear x4 xf
    replace B1 := (B1.set 4 (.int .i64 (Sv.relation t (Sv.index t s).2).1)).keep hg5 (by simpa using hne1)
    replace B0 := (B0.other (by omega : w1.heap.size ≠ w.heap.size) _ _).keep hg5 (by simpa using hne)
    simp at B1
    have x0 := B1.cell 0
    have x1 := B1.cell 1
    have x2 := B1.cell 2
    have x3 := B1.cell 3
    have x4 := B1.cell 4
    have x5 := B1.cell 5
    have x6 := B1.cell 6
    have xf := B1.fz
    have y0 := B0.cell 0
    have y1 := B0.cell 1
    have y2 := B0.cell 2
    have y3 := B0.cell 3
    have y4 := B0.cell 4
    have y5 := B0.cell 5
    have y6 := B0.cell 6
    have yf := B0.fz
    simp at x0 x1 x2 x3 x4 x5 x6 y0 y1 y2 y3 y4 y5 y6
    have hb01 : w.heap.size ≠ w1.heap.size := by omega
    have hb10 : w1.heap.size ≠ w.heap.size := by omega
    have hv : Hid (Sv.argument t s = (⟨4, 4 + 4 * (Sv.index t s).1, 65535, 65535, (Sv.relation t (Sv.index t s).2).1, (Sv.value t (Sv.relation t (Sv.index t s).2).2).1.1, (Sv.value t (Sv.relation t (Sv.index t s).2).2).1.2⟩,
      (Sv.value t (Sv.relation t (Sv.index t s).2).2).2)) := by unfold Hid Sv.argument; rw [if_neg Q.out]
    go_wp2_with fail
    refine bodyPost_ret (v := .agg (tmCells (Sv.argument t s).1)) (by rw [hv.out]; simp [results, Try.results105, go_sem, y0, y1, y2, y3, y4, y5, y6, tmCells, hb01, hb10]) rfl ?_
    rw [hv.out]
    exact ⟨rfl, (((((((((hr5).other hne1 _ _).other hne1 _ _).other hne _ _).other hne _ _).other hne _ _).other hne _ _).other hne _ _).other hne _ _).other hne _ _, gb_own (gb_own (gb_own (gb_own (gb_own (gb_own (gb_own (gb_own (gb_own (gb_trans (gb_own (gb_trans (gb_trans (gb_alloc (gb_unalloc hg1) _) hg2) hg3) (by omega) _ _) hg5) (by omega) _ _) (by omega) _ _) (by omega) _ _) (by omega) _ _) (by omega) _ _) (by omega) _ _) (by omega) _ _) (by omega) _ _) (by omega) _ _⟩
end Go.Proofs.Ytibgffbcbhphdaa
