import Derived.Test.YtibgffbcbhphdaaRd3
namespace Go.Proofs.Ytibgffbcbhphdaa
open Go.RowKit
set_option linter.unusedVariables false
set_option linter.unusedSimpArgs false

set_option maxHeartbeats 1000000 in
theorem term_0 (w : World) (rb : Nat) (t : ByteArray) (s : Sv.St) (h : RdAt w rb t s) (hp : s.p ≤ t.size) (hs : t.size ≤ 600) (Q0 : Hid (Sv.look t s = 84)) :
    Calls Try.prog 95 #[.pointer (some ⟨rb, 0, none⟩)] w fun e w' => e = .returned (.agg (tmCells (Sv.term t s).1)) ∧ RdEnd w w' rb t (Sv.term t s).2 := by
  have hrb := h.lt
  have hne : w.heap.size ≠ rb := by omega
  have hv : Hid (Sv.term t s = (Sv.tm0 0, ⟨s.p + 1, s.f⟩)) := by unfold Hid Sv.term; rw [if_pos Q0.out]
  have hp1 : s.p + 1 ≤ t.size := look_pos t s (by rw [Q0.out]; omega)
  go_enter Try.func95, Try.ntmps95
  go_wp2_with fail
  refine (take_yes _ rb t s 84 (h.alloc _) hp hs Q0.out).mono ?_
  rintro e w1 ⟨rfl, hr1, hg1⟩
  have B0 := ((Blk.new w _ _).keep hg1 (by simpa using hne))
  have y0 := B0.cell 0
  have y1 := B0.cell 1
  have y2 := B0.cell 2
  have y3 := B0.cell 3
  have y4 := B0.cell 4
  have y5 := B0.cell 5
  have y6 := B0.cell 6
  have yf := B0.fz
  simp at y0 y1 y2 y3 y4 y5 y6
  go_wp2_with fail
  refine bodyPost_ret (v := .agg (tmCells (Sv.term t s).1)) (by rw [hv.out]; simp [results, Try.results95, go_sem, y0, y1, y2, y3, y4, y5, y6, tmCells, Sv.tm0]) rfl ?_
  rw [hv.out]
  exact ⟨rfl, (((((((hr1).other hne _ _).other hne _ _).other hne _ _).other hne _ _).other hne _ _).other hne _ _).other hne _ _, gb_own (gb_own (gb_own (gb_own (gb_own (gb_own (gb_own (gb_unalloc hg1) (by omega) _ _) (by omega) _ _) (by omega) _ _) (by omega) _ _) (by omega) _ _) (by omega) _ _) (by omega) _ _⟩

set_option maxHeartbeats 1000000 in
theorem term_1 (w : World) (rb : Nat) (t : ByteArray) (s : Sv.St) (h : RdAt w rb t s) (hp : s.p ≤ t.size) (hs : t.size ≤ 600) (Q0 : Hid (Sv.look t s ≠ 84)) (Q1 : Hid (Sv.look t s = 33)) :
    Calls Try.prog 95 #[.pointer (some ⟨rb, 0, none⟩)] w fun e w' => e = .returned (.agg (tmCells (Sv.term t s).1)) ∧ RdEnd w w' rb t (Sv.term t s).2 := by
  have hrb := h.lt
  have hne : w.heap.size ≠ rb := by omega
  have hv : Hid (Sv.term t s = (Sv.tm0 1, ⟨s.p + 1, s.f⟩)) := by unfold Hid Sv.term; rw [if_neg Q0.out, if_pos Q1.out]
  have hp1 : s.p + 1 ≤ t.size := look_pos t s (by rw [Q1.out]; omega)
  go_enter Try.func95, Try.ntmps95
  go_wp2_with fail
  refine (take_no _ rb t s 84 (h.alloc _) hp hs Q0.out).mono ?_
  rintro e w1 ⟨rfl, hr1, hg1⟩
  go_wp2_with fail
  refine (take_yes _ rb t s 33 hr1 hp hs Q1.out).mono ?_
  rintro e w2 ⟨rfl, hr2, hg2⟩
  have B0 := (((Blk.new w _ _).keep hg1 (by simpa using hne)).keep hg2 (by simpa using hne))
  have y0 := B0.cell 0
  have y1 := B0.cell 1
  have y2 := B0.cell 2
  have y3 := B0.cell 3
  have y4 := B0.cell 4
  have y5 := B0.cell 5
  have y6 := B0.cell 6
  have yf := B0.fz
  simp at y0 y1 y2 y3 y4 y5 y6
  go_wp2_with fail
  refine bodyPost_ret (v := .agg (tmCells (Sv.term t s).1)) (by rw [hv.out]; simp [results, Try.results95, go_sem, y0, y1, y2, y3, y4, y5, y6, tmCells, Sv.tm0]) rfl ?_
  rw [hv.out]
  exact ⟨rfl, (((((((hr2).other hne _ _).other hne _ _).other hne _ _).other hne _ _).other hne _ _).other hne _ _).other hne _ _, gb_own (gb_own (gb_own (gb_own (gb_own (gb_own (gb_own (gb_trans (gb_unalloc hg1) hg2) (by omega) _ _) (by omega) _ _) (by omega) _ _) (by omega) _ _) (by omega) _ _) (by omega) _ _) (by omega) _ _⟩

set_option maxHeartbeats 1000000 in
theorem term_2 (w : World) (rb : Nat) (t : ByteArray) (s : Sv.St) (h : RdAt w rb t s) (hp : s.p ≤ t.size) (hs : t.size ≤ 600) (Q0 : Hid (Sv.look t s ≠ 84)) (Q1 : Hid (Sv.look t s ≠ 33)) (Q2 : Hid (Sv.look t s = 38)) :
    Calls Try.prog 95 #[.pointer (some ⟨rb, 0, none⟩)] w fun e w' => e = .returned (.agg (tmCells (Sv.term t s).1)) ∧ RdEnd w w' rb t (Sv.term t s).2 := by
  have hrb := h.lt
  have hne : w.heap.size ≠ rb := by omega
  have hv : Hid (Sv.term t s = (Sv.tm0 2, ⟨s.p + 1, s.f⟩)) := by unfold Hid Sv.term; rw [if_neg Q0.out, if_neg Q1.out, if_pos Q2.out]
  have hp1 : s.p + 1 ≤ t.size := look_pos t s (by rw [Q2.out]; omega)
  go_enter Try.func95, Try.ntmps95
  go_wp2_with fail
  refine (take_no _ rb t s 84 (h.alloc _) hp hs Q0.out).mono ?_
  rintro e w1 ⟨rfl, hr1, hg1⟩
  go_wp2_with fail
  refine (take_no _ rb t s 33 hr1 hp hs Q1.out).mono ?_
  rintro e w2 ⟨rfl, hr2, hg2⟩
  go_wp2_with fail
  refine (take_yes _ rb t s 38 hr2 hp hs Q2.out).mono ?_
  rintro e w3 ⟨rfl, hr3, hg3⟩
  have B0 := ((((Blk.new w _ _).keep hg1 (by simpa using hne)).keep hg2 (by simpa using hne)).keep hg3 (by simpa using hne))
  have y0 := B0.cell 0
  have y1 := B0.cell 1
  have y2 := B0.cell 2
  have y3 := B0.cell 3
  have y4 := B0.cell 4
  have y5 := B0.cell 5
  have y6 := B0.cell 6
  have yf := B0.fz
  simp at y0 y1 y2 y3 y4 y5 y6
  go_wp2_with fail
  refine bodyPost_ret (v := .agg (tmCells (Sv.term t s).1)) (by rw [hv.out]; simp [results, Try.results95, go_sem, y0, y1, y2, y3, y4, y5, y6, tmCells, Sv.tm0]) rfl ?_
  rw [hv.out]
  exact ⟨rfl, (((((((hr3).other hne _ _).other hne _ _).other hne _ _).other hne _ _).other hne _ _).other hne _ _).other hne _ _, gb_own (gb_own (gb_own (gb_own (gb_own (gb_own (gb_own (gb_trans (gb_trans (gb_unalloc hg1) hg2) hg3) (by omega) _ _) (by omega) _ _) (by omega) _ _) (by omega) _ _) (by omega) _ _) (by omega) _ _) (by omega) _ _⟩

set_option maxHeartbeats 1000000 in
theorem term_3 (w : World) (rb : Nat) (t : ByteArray) (s : Sv.St) (h : RdAt w rb t s) (hp : s.p ≤ t.size) (hs : t.size ≤ 600) (Q0 : Hid (Sv.look t s ≠ 84)) (Q1 : Hid (Sv.look t s ≠ 33)) (Q2 : Hid (Sv.look t s ≠ 38)) (Q3 : Hid (Sv.look t s = 124)) :
    Calls Try.prog 95 #[.pointer (some ⟨rb, 0, none⟩)] w fun e w' => e = .returned (.agg (tmCells (Sv.term t s).1)) ∧ RdEnd w w' rb t (Sv.term t s).2 := by
  have hrb := h.lt
  have hne : w.heap.size ≠ rb := by omega
  have hv : Hid (Sv.term t s = (Sv.tm0 3, ⟨s.p + 1, s.f⟩)) := by unfold Hid Sv.term; rw [if_neg Q0.out, if_neg Q1.out, if_neg Q2.out, if_pos Q3.out]
  have hp1 : s.p + 1 ≤ t.size := look_pos t s (by rw [Q3.out]; omega)
  go_enter Try.func95, Try.ntmps95
  go_wp2_with fail
  refine (take_no _ rb t s 84 (h.alloc _) hp hs Q0.out).mono ?_
  rintro e w1 ⟨rfl, hr1, hg1⟩
  go_wp2_with fail
  refine (take_no _ rb t s 33 hr1 hp hs Q1.out).mono ?_
  rintro e w2 ⟨rfl, hr2, hg2⟩
  go_wp2_with fail
  refine (take_no _ rb t s 38 hr2 hp hs Q2.out).mono ?_
  rintro e w3 ⟨rfl, hr3, hg3⟩
  go_wp2_with fail
  refine (take_yes _ rb t s 124 hr3 hp hs Q3.out).mono ?_
  rintro e w4 ⟨rfl, hr4, hg4⟩
  have B0 := (((((Blk.new w _ _).keep hg1 (by simpa using hne)).keep hg2 (by simpa using hne)).keep hg3 (by simpa using hne)).keep hg4 (by simpa using hne))
  have y0 := B0.cell 0
  have y1 := B0.cell 1
  have y2 := B0.cell 2
  have y3 := B0.cell 3
  have y4 := B0.cell 4
  have y5 := B0.cell 5
  have y6 := B0.cell 6
  have yf := B0.fz
  simp at y0 y1 y2 y3 y4 y5 y6
  go_wp2_with fail
  refine bodyPost_ret (v := .agg (tmCells (Sv.term t s).1)) (by rw [hv.out]; simp [results, Try.results95, go_sem, y0, y1, y2, y3, y4, y5, y6, tmCells, Sv.tm0]) rfl ?_
  rw [hv.out]
  exact ⟨rfl, (((((((hr4).other hne _ _).other hne _ _).other hne _ _).other hne _ _).other hne _ _).other hne _ _).other hne _ _, gb_own (gb_own (gb_own (gb_own (gb_own (gb_own (gb_own (gb_trans (gb_trans (gb_trans (gb_unalloc hg1) hg2) hg3) hg4) (by omega) _ _) (by omega) _ _) (by omega) _ _) (by omega) _ _) (by omega) _ _) (by omega) _ _) (by omega) _ _⟩

set_option maxHeartbeats 1000000 in
theorem term_4 (w : World) (rb : Nat) (t : ByteArray) (s : Sv.St) (h : RdAt w rb t s) (hp : s.p ≤ t.size) (hs : t.size ≤ 600) (Q0 : Hid (Sv.look t s ≠ 84)) (Q1 : Hid (Sv.look t s ≠ 33)) (Q2 : Hid (Sv.look t s ≠ 38)) (Q3 : Hid (Sv.look t s ≠ 124)) (Q4 : Hid (Sv.look t s = 110)) :
    Calls Try.prog 95 #[.pointer (some ⟨rb, 0, none⟩)] w fun e w' => e = .returned (.agg (tmCells (Sv.term t s).1)) ∧ RdEnd w w' rb t (Sv.term t s).2 := by
  have hrb := h.lt
  have hne : w.heap.size ≠ rb := by omega
  have hv : Hid (Sv.term t s = Sv.short t 0 ⟨s.p + 1, s.f⟩) := by unfold Hid Sv.term; rw [if_neg Q0.out, if_neg Q1.out, if_neg Q2.out, if_neg Q3.out, if_pos Q4.out]
  have hp1 : s.p + 1 ≤ t.size := look_pos t s (by rw [Q4.out]; omega)
  go_enter Try.func95, Try.ntmps95
  go_wp2_with fail
  refine (take_no _ rb t s 84 (h.alloc _) hp hs Q0.out).mono ?_
  rintro e w1 ⟨rfl, hr1, hg1⟩
  go_wp2_with fail
  refine (take_no _ rb t s 33 hr1 hp hs Q1.out).mono ?_
  rintro e w2 ⟨rfl, hr2, hg2⟩
  go_wp2_with fail
  refine (take_no _ rb t s 38 hr2 hp hs Q2.out).mono ?_
  rintro e w3 ⟨rfl, hr3, hg3⟩
  go_wp2_with fail
  refine (take_no _ rb t s 124 hr3 hp hs Q3.out).mono ?_
  rintro e w4 ⟨rfl, hr4, hg4⟩
  go_wp2_with fail
  refine (take_yes _ rb t s 110 hr4 hp hs Q4.out).mono ?_
  rintro e w5 ⟨rfl, hr5, hg5⟩
  go_wp2_with fail
  refine (short_any _ rb t _ 0 hr5 hp1 hs).mono ?_
  rintro e w9 ⟨rfl, hr9, hg9⟩
  generalize hX : Sv.short t 0 ⟨s.p + 1, s.f⟩ = X at *
  have HX : Hid (Sv.short t 0 ⟨s.p + 1, s.f⟩ = X) := hX
  clear hX
  obtain ⟨⟨k0, k1, k2, k3, k4, k5, k6⟩, s9⟩ := X
  simp only [tmCells]
  have B0 := (((((((Blk.new w _ _).keep hg1 (by simpa using hne)).keep hg2 (by simpa using hne)).keep hg3 (by simpa using hne)).keep hg4 (by simpa using hne)).keep hg5 (by simpa using hne)).keep hg9 (by simpa using hne))
  have y0 := B0.cell 0
  have y1 := B0.cell 1
  have y2 := B0.cell 2
  have y3 := B0.cell 3
  have y4 := B0.cell 4
  have y5 := B0.cell 5
  have y6 := B0.cell 6
  have yf := B0.fz
  simp at y0 y1 y2 y3 y4 y5 y6
  go_wp2_with fail
  refine bodyPost_ret (v := .agg (tmCells (Sv.term t s).1)) (by rw [hv.out]; simp [results, Try.results95, go_sem, y0, y1, y2, y3, y4, y5, y6, tmCells, Sv.tm0]) rfl ?_
  rw [hv.out]
  exact ⟨rfl, (((((((hr9).other hne _ _).other hne _ _).other hne _ _).other hne _ _).other hne _ _).other hne _ _).other hne _ _, gb_own (gb_own (gb_own (gb_own (gb_own (gb_own (gb_own (gb_trans (gb_trans (gb_trans (gb_trans (gb_trans (gb_unalloc hg1) hg2) hg3) hg4) hg5) hg9) (by omega) _ _) (by omega) _ _) (by omega) _ _) (by omega) _ _) (by omega) _ _) (by omega) _ _) (by omega) _ _⟩

set_option maxHeartbeats 1000000 in
theorem term_5 (w : World) (rb : Nat) (t : ByteArray) (s : Sv.St) (h : RdAt w rb t s) (hp : s.p ≤ t.size) (hs : t.size ≤ 600) (Q0 : Hid (Sv.look t s ≠ 84)) (Q1 : Hid (Sv.look t s ≠ 33)) (Q2 : Hid (Sv.look t s ≠ 38)) (Q3 : Hid (Sv.look t s ≠ 124)) (Q4 : Hid (Sv.look t s ≠ 110)) (Q5 : Hid (Sv.look t s = 104)) :
    Calls Try.prog 95 #[.pointer (some ⟨rb, 0, none⟩)] w fun e w' => e = .returned (.agg (tmCells (Sv.term t s).1)) ∧ RdEnd w w' rb t (Sv.term t s).2 := by
  have hrb := h.lt
  have hne : w.heap.size ≠ rb := by omega
  have hv : Hid (Sv.term t s = Sv.short t 2 ⟨s.p + 1, s.f⟩) := by unfold Hid Sv.term; rw [if_neg Q0.out, if_neg Q1.out, if_neg Q2.out, if_neg Q3.out, if_neg Q4.out, if_pos Q5.out]
  have hp1 : s.p + 1 ≤ t.size := look_pos t s (by rw [Q5.out]; omega)
  go_enter Try.func95, Try.ntmps95
  go_wp2_with fail
  refine (take_no _ rb t s 84 (h.alloc _) hp hs Q0.out).mono ?_
  rintro e w1 ⟨rfl, hr1, hg1⟩
  go_wp2_with fail
  refine (take_no _ rb t s 33 hr1 hp hs Q1.out).mono ?_
  rintro e w2 ⟨rfl, hr2, hg2⟩
  go_wp2_with fail
  refine (take_no _ rb t s 38 hr2 hp hs Q2.out).mono ?_
  rintro e w3 ⟨rfl, hr3, hg3⟩
  go_wp2_with fail
  refine (take_no _ rb t s 124 hr3 hp hs Q3.out).mono ?_
  rintro e w4 ⟨rfl, hr4, hg4⟩
  go_wp2_with fail
  refine (take_no _ rb t s 110 hr4 hp hs Q4.out).mono ?_
  rintro e w5 ⟨rfl, hr5, hg5⟩
  go_wp2_with fail
  refine (take_yes _ rb t s 104 hr5 hp hs Q5.out).mono ?_
  rintro e w6 ⟨rfl, hr6, hg6⟩
  go_wp2_with fail
  refine (short_any _ rb t _ 2 hr6 hp1 hs).mono ?_
  rintro e w9 ⟨rfl, hr9, hg9⟩
  generalize hX : Sv.short t 2 ⟨s.p + 1, s.f⟩ = X at *
  have HX : Hid (Sv.short t 2 ⟨s.p + 1, s.f⟩ = X) := hX
  clear hX
  obtain ⟨⟨k0, k1, k2, k3, k4, k5, k6⟩, s9⟩ := X
  simp only [tmCells]
  have B0 := ((((((((Blk.new w _ _).keep hg1 (by simpa using hne)).keep hg2 (by simpa using hne)).keep hg3 (by simpa using hne)).keep hg4 (by simpa using hne)).keep hg5 (by simpa using hne)).keep hg6 (by simpa using hne)).keep hg9 (by simpa using hne))
  have y0 := B0.cell 0
  have y1 := B0.cell 1
  have y2 := B0.cell 2
  have y3 := B0.cell 3
  have y4 := B0.cell 4
  have y5 := B0.cell 5
  have y6 := B0.cell 6
  have yf := B0.fz
  simp at y0 y1 y2 y3 y4 y5 y6
  go_wp2_with fail
  refine bodyPost_ret (v := .agg (tmCells (Sv.term t s).1)) (by rw [hv.out]; simp [results, Try.results95, go_sem, y0, y1, y2, y3, y4, y5, y6, tmCells, Sv.tm0]) rfl ?_
  rw [hv.out]
  exact ⟨rfl, (((((((hr9).other hne _ _).other hne _ _).other hne _ _).other hne _ _).other hne _ _).other hne _ _).other hne _ _, gb_own (gb_own (gb_own (gb_own (gb_own (gb_own (gb_own (gb_trans (gb_trans (gb_trans (gb_trans (gb_trans (gb_trans (gb_unalloc hg1) hg2) hg3) hg4) hg5) hg6) hg9) (by omega) _ _) (by omega) _ _) (by omega) _ _) (by omega) _ _) (by omega) _ _) (by omega) _ _) (by omega) _ _⟩

set_option maxHeartbeats 1000000 in
theorem term_6 (w : World) (rb : Nat) (t : ByteArray) (s : Sv.St) (h : RdAt w rb t s) (hp : s.p ≤ t.size) (hs : t.size ≤ 600) (Q0 : Hid (Sv.look t s ≠ 84)) (Q1 : Hid (Sv.look t s ≠ 33)) (Q2 : Hid (Sv.look t s ≠ 38)) (Q3 : Hid (Sv.look t s ≠ 124)) (Q4 : Hid (Sv.look t s ≠ 110)) (Q5 : Hid (Sv.look t s ≠ 104)) (Q6 : Hid (Sv.look t s = 97)) :
    Calls Try.prog 95 #[.pointer (some ⟨rb, 0, none⟩)] w fun e w' => e = .returned (.agg (tmCells (Sv.term t s).1)) ∧ RdEnd w w' rb t (Sv.term t s).2 := by
  have hrb := h.lt
  have hne : w.heap.size ≠ rb := by omega
  have hv : Hid (Sv.term t s = Sv.argument t ⟨s.p + 1, s.f⟩) := by unfold Hid Sv.term; rw [if_neg Q0.out, if_neg Q1.out, if_neg Q2.out, if_neg Q3.out, if_neg Q4.out, if_neg Q5.out, if_pos Q6.out]
  have hp1 : s.p + 1 ≤ t.size := look_pos t s (by rw [Q6.out]; omega)
  go_enter Try.func95, Try.ntmps95
  go_wp2_with fail
  refine (take_no _ rb t s 84 (h.alloc _) hp hs Q0.out).mono ?_
  rintro e w1 ⟨rfl, hr1, hg1⟩
  go_wp2_with fail
  refine (take_no _ rb t s 33 hr1 hp hs Q1.out).mono ?_
  rintro e w2 ⟨rfl, hr2, hg2⟩
  go_wp2_with fail
  refine (take_no _ rb t s 38 hr2 hp hs Q2.out).mono ?_
  rintro e w3 ⟨rfl, hr3, hg3⟩
  go_wp2_with fail
  refine (take_no _ rb t s 124 hr3 hp hs Q3.out).mono ?_
  rintro e w4 ⟨rfl, hr4, hg4⟩
  go_wp2_with fail
  refine (take_no _ rb t s 110 hr4 hp hs Q4.out).mono ?_
  rintro e w5 ⟨rfl, hr5, hg5⟩
  go_wp2_with fail
  refine (take_no _ rb t s 104 hr5 hp hs Q5.out).mono ?_
  rintro e w6 ⟨rfl, hr6, hg6⟩
  go_wp2_with fail
  refine (take_yes _ rb t s 97 hr6 hp hs Q6.out).mono ?_
  rintro e w7 ⟨rfl, hr7, hg7⟩
  go_wp2_with fail
  refine (argument_any _ rb t _ hr7 hp1 hs).mono ?_
  rintro e w9 ⟨rfl, hr9, hg9⟩
  generalize hX : Sv.argument t ⟨s.p + 1, s.f⟩ = X at *
  have HX : Hid (Sv.argument t ⟨s.p + 1, s.f⟩ = X) := hX
  clear hX
  obtain ⟨⟨k0, k1, k2, k3, k4, k5, k6⟩, s9⟩ := X
  simp only [tmCells]
  have B0 := (((((((((Blk.new w _ _).keep hg1 (by simpa using hne)).keep hg2 (by simpa using hne)).keep hg3 (by simpa using hne)).keep hg4 (by simpa using hne)).keep hg5 (by simpa using hne)).keep hg6 (by simpa using hne)).keep hg7 (by simpa using hne)).keep hg9 (by simpa using hne))
  have y0 := B0.cell 0
  have y1 := B0.cell 1
  have y2 := B0.cell 2
  have y3 := B0.cell 3
  have y4 := B0.cell 4
  have y5 := B0.cell 5
  have y6 := B0.cell 6
  have yf := B0.fz
  simp at y0 y1 y2 y3 y4 y5 y6
  go_wp2_with fail
  refine bodyPost_ret (v := .agg (tmCells (Sv.term t s).1)) (by rw [hv.out]; simp [results, Try.results95, go_sem, y0, y1, y2, y3, y4, y5, y6, tmCells, Sv.tm0]) rfl ?_
  rw [hv.out]
  exact ⟨rfl, (((((((hr9).other hne _ _).other hne _ _).other hne _ _).other hne _ _).other hne _ _).other hne _ _).other hne _ _, gb_own (gb_own (gb_own (gb_own (gb_own (gb_own (gb_own (gb_trans (gb_trans (gb_trans (gb_trans (gb_trans (gb_trans (gb_trans (gb_unalloc hg1) hg2) hg3) hg4) hg5) hg6) hg7) hg9) (by omega) _ _) (by omega) _ _) (by omega) _ _) (by omega) _ _) (by omega) _ _) (by omega) _ _) (by omega) _ _⟩

set_option maxHeartbeats 1000000 in
theorem term_7 (w : World) (rb : Nat) (t : ByteArray) (s : Sv.St) (h : RdAt w rb t s) (hp : s.p ≤ t.size) (hs : t.size ≤ 600) (Q0 : Hid (Sv.look t s ≠ 84)) (Q1 : Hid (Sv.look t s ≠ 33)) (Q2 : Hid (Sv.look t s ≠ 38)) (Q3 : Hid (Sv.look t s ≠ 124)) (Q4 : Hid (Sv.look t s ≠ 110)) (Q5 : Hid (Sv.look t s ≠ 104)) (Q6 : Hid (Sv.look t s ≠ 97)) :
    Calls Try.prog 95 #[.pointer (some ⟨rb, 0, none⟩)] w fun e w' => e = .returned (.agg (tmCells (Sv.term t s).1)) ∧ RdEnd w w' rb t (Sv.term t s).2 := by
  have hrb := h.lt
  have hne : w.heap.size ≠ rb := by omega
  have hv : Hid (Sv.term t s = (Sv.tm0 0, ⟨s.p, true⟩)) := by unfold Hid Sv.term; rw [if_neg Q0.out, if_neg Q1.out, if_neg Q2.out, if_neg Q3.out, if_neg Q4.out, if_neg Q5.out, if_neg Q6.out]
  go_enter Try.func95, Try.ntmps95
  go_wp2_with fail
  refine (take_no _ rb t s 84 (h.alloc _) hp hs Q0.out).mono ?_
  rintro e w1 ⟨rfl, hr1, hg1⟩
  go_wp2_with fail
  refine (take_no _ rb t s 33 hr1 hp hs Q1.out).mono ?_
  rintro e w2 ⟨rfl, hr2, hg2⟩
  go_wp2_with fail
  refine (take_no _ rb t s 38 hr2 hp hs Q2.out).mono ?_
  rintro e w3 ⟨rfl, hr3, hg3⟩
  go_wp2_with fail
  refine (take_no _ rb t s 124 hr3 hp hs Q3.out).mono ?_
  rintro e w4 ⟨rfl, hr4, hg4⟩
  go_wp2_with fail
  refine (take_no _ rb t s 110 hr4 hp hs Q4.out).mono ?_
  rintro e w5 ⟨rfl, hr5, hg5⟩
  go_wp2_with fail
  refine (take_no _ rb t s 104 hr5 hp hs Q5.out).mono ?_
  rintro e w6 ⟨rfl, hr6, hg6⟩
  go_wp2_with fail
  refine (take_no _ rb t s 97 hr6 hp hs Q6.out).mono ?_
  rintro e w7 ⟨rfl, hr7, hg7⟩
  have B0 := ((((((((Blk.new w _ _).keep hg1 (by simpa using hne)).keep hg2 (by simpa using hne)).keep hg3 (by simpa using hne)).keep hg4 (by simpa using hne)).keep hg5 (by simpa using hne)).keep hg6 (by simpa using hne)).keep hg7 (by simpa using hne))
  have y0 := B0.cell 0
  have y1 := B0.cell 1
  have y2 := B0.cell 2
  have y3 := B0.cell 3
  have y4 := B0.cell 4
  have y5 := B0.cell 5
  have y6 := B0.cell 6
  have yf := B0.fz
  simp at y0 y1 y2 y3 y4 y5 y6
  have c2 := hr7.c2
  have f2 := hr7.fz 2
  have hne2 : rb ≠ w.heap.size := by omega
  go_wp2_with fail
  refine bodyPost_ret (v := .agg (tmCells (Sv.term t s).1)) (by rw [hv.out]; simp [results, Try.results95, go_sem, y0, y1, y2, y3, y4, y5, y6, tmCells, Sv.tm0, hne2, hne]) rfl ?_
  rw [hv.out]
  exact ⟨rfl, (((((((hr7.set2 true).other hne _ _).other hne _ _).other hne _ _).other hne _ _).other hne _ _).other hne _ _).other hne _ _, gb_own (gb_own (gb_own (gb_own (gb_own (gb_own (gb_own (gb_set (gb_trans (gb_trans (gb_trans (gb_trans (gb_trans (gb_trans (gb_unalloc hg1) hg2) hg3) hg4) hg5) hg6) hg7) _ _) (by omega) _ _) (by omega) _ _) (by omega) _ _) (by omega) _ _) (by omega) _ _) (by omega) _ _) (by omega) _ _⟩

theorem term_any (w : World) (rb : Nat) (t : ByteArray) (s : Sv.St) (h : RdAt w rb t s) (hp : s.p ≤ t.size) (hs : t.size ≤ 600) :
    Calls Try.prog 95 #[.pointer (some ⟨rb, 0, none⟩)] w fun e w' => e = .returned (.agg (tmCells (Sv.term t s).1)) ∧ RdEnd w w' rb t (Sv.term t s).2 := by
  by_cases q0 : Sv.look t s = 84
  · exact term_0 w rb t s h hp hs q0
  by_cases q1 : Sv.look t s = 33
  · exact term_1 w rb t s h hp hs q0 q1
  by_cases q2 : Sv.look t s = 38
  · exact term_2 w rb t s h hp hs q0 q1 q2
  by_cases q3 : Sv.look t s = 124
  · exact term_3 w rb t s h hp hs q0 q1 q2 q3
  by_cases q4 : Sv.look t s = 110
  · exact term_4 w rb t s h hp hs q0 q1 q2 q3 q4
  by_cases q5 : Sv.look t s = 104
  · exact term_5 w rb t s h hp hs q0 q1 q2 q3 q4 q5
  by_cases q6 : Sv.look t s = 97
  · exact term_6 w rb t s h hp hs q0 q1 q2 q3 q4 q5 q6
  exact term_7 w rb t s h hp hs q0 q1 q2 q3 q4 q5 q6
end Go.Proofs.Ytibgffbcbhphdaa
