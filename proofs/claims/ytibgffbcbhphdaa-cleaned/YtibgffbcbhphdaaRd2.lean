import Derived.Test.YtibgffbcbhphdaaRd1
namespace Go.Proofs.Ytibgffbcbhphdaa
open Go.RowKit
set_option linter.unusedVariables false
set_option linter.unusedSimpArgs false

/-- a term's cells -/
def tmCells (x : Sv.Tm) : Array Value := #[.int .i64 x.kind, .int .i64 x.word, .int .i64 x.mh, .int .i64 x.ml, .int .i64 x.rel, .int .i64 x.wh, .int .i64 x.wl]

/-- a block of cells, not frozen -/
def Blk (w : World) (b : Nat) (T : TypeId) (cs : Array Value) : Prop := w.heap[b]? = some (.cells cs T (0, 0))
theorem Blk.cell {w : World} {b : Nat} {T : TypeId} {cs : Array Value} (h : Blk w b T cs) (o : Nat) : w.cell? ⟨b, o, none⟩ = cs[o]? := by
  unfold Blk at h; simp [World.cell?, h]
theorem Blk.fz {w : World} {b : Nat} {T : TypeId} {cs : Array Value} (h : Blk w b T cs) (o : Nat) : w.frozen? ⟨b, o, none⟩ = false := by
  unfold Blk at h; simp [World.frozen?, h]
theorem Blk.lt {w : World} {b : Nat} {T : TypeId} {cs : Array Value} (h : Blk w b T cs) : b < w.heap.size := by
  unfold Blk at h; exact (Array.getElem?_eq_some_iff.1 h).1
theorem Blk.keep {w w' : World} {b : Nat} {T : TypeId} {cs : Array Value} (h : Blk w b T cs) {r : Option Nat} (hg : w.grownBy w' r) (hr : some b ≠ r) : Blk w' b T cs := by
  unfold Blk; rw [hg.block b h.lt hr]; exact h
theorem Blk.new (w : World) (T : TypeId) (cs : Array Value) : Blk (w.alloc (.cells cs T)) w.heap.size T cs := by
  unfold Blk; exact heap_alloc_new w _
theorem Blk.alloc {w : World} {b : Nat} {T : TypeId} {cs : Array Value} (h : Blk w b T cs) (o : Obj) : Blk (w.alloc o) b T cs := by
  unfold Blk; rw [Below.heap_alloc _ _ _ h.lt]; exact h
theorem Blk.set {w : World} {b : Nat} {T : TypeId} {cs : Array Value} (h : Blk w b T cs) (o : Nat) (v : Value) : Blk (w.setCell ⟨b, o, none⟩ v) b T (cs.setIfInBounds o v) := by
  unfold Blk at *; simp [World.setCell, Array.getElem?_modify, h]
theorem Blk.other {w : World} {b : Nat} {T : TypeId} {cs : Array Value} (h : Blk w b T cs) {c : Nat} (hc : c ≠ b) (o : Nat) (v : Value) : Blk (w.setCell ⟨c, o, none⟩ v) b T cs := by
  unfold Blk at *; rw [Below.heap_setCell _ _ _ _ (by simpa using hc.symm)]; exact h
theorem RdAt.alloc {w : World} {rb : Nat} {t : ByteArray} {s : Sv.St} (h : RdAt w rb t s) (o : Obj) : RdAt (w.alloc o) rb t s := by
  have := h.lt
  unfold RdAt at *; rw [Below.heap_alloc _ _ _ this]; exact h

theorem look_pos (t : ByteArray) (s : Sv.St) (h : 0 ≤ Sv.look t s) : s.p < t.size := by
  unfold Sv.look at h; split at h
  · omega
  · exact Sv.lt_of_byteAt h

theorem Sv_value_p (t : ByteArray) (s : Sv.St) (hp : s.p ≤ t.size) : (Sv.value t s).2.p ≤ t.size :=
  (Sv_word_p t _ (Sv_word_p t s hp).1).1
theorem Sv_index_p (t : ByteArray) (s : Sv.St) (hp : s.p ≤ t.size) : (Sv.index t s).2.p ≤ t.size ∧ 0 ≤ (Sv.index t s).1 ∧ (Sv.index t s).1 ≤ 3 := by
  have := look_pos t s
  unfold Sv.index; split <;> simp only <;> omega
theorem Sv_relation_p (t : ByteArray) (s : Sv.St) (hp : s.p ≤ t.size) : (Sv.relation t s).2.p ≤ t.size ∧ 0 ≤ (Sv.relation t s).1 ∧ (Sv.relation t s).1 ≤ 2 := by
  have := look_pos t s
  unfold Sv.relation
  split
  · simp only; omega
  · split
    · simp only; omega
    · split <;> simp only <;> omega
theorem Sv_need_p (t : ByteArray) (b : Int) (s : Sv.St) (hb : 0 ≤ b) (hp : s.p ≤ t.size) : (Sv.need t b s).p ≤ t.size := by
  have := look_pos t s
  unfold Sv.need; split <;> simp only <;> omega
theorem Sv_take_p (t : ByteArray) (b : Int) (s : Sv.St) (hb : 0 ≤ b) (hp : s.p ≤ t.size) : (Sv.take t b s).2.p ≤ t.size := by
  have := look_pos t s
  unfold Sv.take; split <;> simp only <;> omega


theorem RdAt.other {w : World} {rb : Nat} {t : ByteArray} {s : Sv.St} (h : RdAt w rb t s) {b : Nat} (hb : b ≠ rb) (o : Nat) (v : Value) : RdAt (w.setCell ⟨b, o, none⟩ v) rb t s := by
  unfold RdAt at *; rw [Below.heap_setCell _ _ _ _ (by simpa using hb.symm)]; exact h
theorem gb_own {a b : World} {r : Option Nat} (h : a.grownBy b r) {B : Nat} (hB : a.heap.size ≤ B) (o : Nat) (v : Value) : a.grownBy (b.setCell ⟨B, o, none⟩ v) r :=
  ⟨h.os, h.tape, h.output, by simpa [World.setCell] using h.size, fun k hk hr => by rw [Below.heap_setCell _ _ _ _ (by simp; omega)]; exact h.block k hk hr⟩
theorem gb_unalloc {a b : World} {o : Obj} {r : Option Nat} (h : (a.alloc o).grownBy b r) : a.grownBy b r := gb_trans (World.grownBy_alloc a o r) h

theorem take_yes (w : World) (rb : Nat) (t : ByteArray) (s : Sv.St) (b : Int) (h : RdAt w rb t s) (hp : s.p ≤ t.size) (hs : t.size ≤ 600) (hb : Sv.look t s = b) :
    Calls Try.prog 61 #[.pointer (some ⟨rb, 0, none⟩), .int .i64 b] w fun e w' => e = .returned (.bool true) ∧ RdEnd w w' rb t ⟨s.p + 1, s.f⟩ := by
  have e : Sv.take t b s = (true, ⟨s.p + 1, s.f⟩) := by simp [Sv.take, hb]
  have := take_any w rb t s b h hp hs
  rw [e] at this; exact this
theorem take_no (w : World) (rb : Nat) (t : ByteArray) (s : Sv.St) (b : Int) (h : RdAt w rb t s) (hp : s.p ≤ t.size) (hs : t.size ≤ 600) (hb : Sv.look t s ≠ b) :
    Calls Try.prog 61 #[.pointer (some ⟨rb, 0, none⟩), .int .i64 b] w fun e w' => e = .returned (.bool false) ∧ RdEnd w w' rb t s := by
  have e : Sv.take t b s = (false, s) := by simp [Sv.take, hb]
  have := take_any w rb t s b h hp hs
  rw [e] at this; exact this

set_option maxHeartbeats 400000 in
theorem value_any (w : World) (rb : Nat) (t : ByteArray) (s : Sv.St) (h : RdAt w rb t s) (hp : s.p ≤ t.size) (hs : t.size ≤ 600) :
    Calls Try.prog 109 #[.pointer (some ⟨rb, 0, none⟩)] w fun e w' => e = .returned (.agg #[.int .i64 (Sv.value t s).1.1, .int .i64 (Sv.value t s).1.2]) ∧ RdEnd w w' rb t (Sv.value t s).2 := by
  have hrb := h.lt
  have hne : w.heap.size ≠ rb := by omega
  go_enter Try.func109, Try.ntmps109
  go_wp2_with fail
  refine (word_any _ rb t s (h.alloc _) hp hs).mono ?_
  rintro e w1 ⟨rfl, hr1, hg1⟩
  have hp1 := (Sv_word_p t s hp).1
  go_wp2_with fail
  refine (word_any _ rb t _ hr1 hp1 hs).mono ?_
  rintro e w2 ⟨rfl, hr2, hg2⟩
  have hb : Blk w2 w.heap.size 115 #[.int .i64 0, .int .i64 0] := ((Blk.new w _ _).keep hg1 (by simpa using hne)).keep hg2 (by simpa using hne)
  have b0 := hb.cell 0
  have b1 := hb.cell 1
  have bf := hb.fz
  simp at b0 b1
  go_wp2_with fail
  exact bodyPost_ret (v := .agg #[.int .i64 (Sv.value t s).1.1, .int .i64 (Sv.value t s).1.2]) (by simp [results, Try.results109, go_sem, b0, b1, Sv.value]) rfl
    ⟨rfl, (hr2.other hne _ _).other hne _ _, gb_own (gb_own (gb_trans (gb_unalloc hg1) hg2) (Nat.le_refl _) _ _) (Nat.le_refl _) _ _⟩

set_option maxHeartbeats 400000 in
theorem index_any (w : World) (rb : Nat) (t : ByteArray) (s : Sv.St) (h : RdAt w rb t s) (hp : s.p ≤ t.size) (hs : t.size ≤ 600) :
    Calls Try.prog 108 #[.pointer (some ⟨rb, 0, none⟩)] w fun e w' => e = .returned (.int .i64 (Sv.index t s).1) ∧ RdEnd w w' rb t (Sv.index t s).2 := by
  have c1 := h.c1
  have c2 := h.c2
  have f1 := h.fz 1
  have f2 := h.fz 2
  have hge := look_ge t s
  have hlt := look_lt t s
  have hA : (48 ≤ Sv.look t s ∧ Sv.look t s ≤ 51) → Hid (Sv.index t s = (Sv.look t s - 48, ⟨s.p + 1, s.f⟩)) := by
    intro hc; unfold Hid Sv.index; rw [if_pos hc]
  have hC : (Sv.look t s < 48 ∨ 51 < Sv.look t s) → Hid (Sv.index t s = (0, ⟨s.p, true⟩)) := by
    intro hc; unfold Hid Sv.index; rw [if_neg (by omega)]
  have hlk := look_any (w := w) rb t s h hs
  generalize Sv.look t s = c at *
  have hcase : (48 ≤ c ∧ c ≤ 51) ∨ c < 48 ∨ 51 < c := by omega
  rcases hcase with hc | hc | hc
  · replace hA := hA hc
    obtain ⟨h1, h2⟩ := hc
    clear hC
    go_enter Try.func108, Try.ntmps108
    go_wp2_with fail
    refine hlk.mono ?_
    clear hlk
    rintro e w1 ⟨rfl, n, rfl⟩
    go_wp2_with fail
    go_ret
    rw [hA.out]
    exact ⟨rfl, (h.drewN n).set1 _ _ (by simp), gb_set (gb_drewN (gb_refl _ _) _) _ _⟩
  all_goals
    replace hC := hC (by omega)
    clear hA
    go_enter Try.func108, Try.ntmps108
    go_wp2_with fail
    refine hlk.mono ?_
    clear hlk
    rintro e w1 ⟨rfl, n, rfl⟩
    go_wp2_with fail
    go_ret
    rw [hC.out]
    exact ⟨rfl, (h.drewN n).set2 true, gb_set (gb_drewN (gb_refl _ _) _) _ _⟩

set_option maxHeartbeats 400000 in
theorem relation_any (w : World) (rb : Nat) (t : ByteArray) (s : Sv.St) (h : RdAt w rb t s) (hp : s.p ≤ t.size) (hs : t.size ≤ 600) :
    Calls Try.prog 107 #[.pointer (some ⟨rb, 0, none⟩)] w fun e w' => e = .returned (.int .i64 (Sv.relation t s).1) ∧ RdEnd w w' rb t (Sv.relation t s).2 := by
  by_cases q0 : Sv.look t s = 61
  · have hv : Hid (Sv.relation t s = (0, ⟨s.p + 1, s.f⟩)) := by unfold Hid Sv.relation; rw [if_pos q0]
    have Q0 : Hid (Sv.look t s = 61) := q0
    clear q0
    go_enter Try.func107, Try.ntmps107
    go_wp2_with fail
    refine (take_yes _ rb t s 61 h hp hs Q0.out).mono ?_
    rintro e w1 ⟨rfl, hr1, hg1⟩
    go_wp2_with fail
    go_ret
    rw [hv.out]
    exact ⟨rfl, hr1, hg1⟩
  by_cases q1 : Sv.look t s = 60
  · have hv : Hid (Sv.relation t s = (1, ⟨s.p + 1, s.f⟩)) := by unfold Hid Sv.relation; rw [if_neg q0, if_pos q1]
    have Q0 : Hid (Sv.look t s ≠ 61) := q0
    have Q1 : Hid (Sv.look t s = 60) := q1
    clear q0 q1
    go_enter Try.func107, Try.ntmps107
    go_wp2_with fail
    refine (take_no _ rb t s 61 h hp hs Q0.out).mono ?_
    rintro e w1 ⟨rfl, hr1, hg1⟩
    go_wp2_with fail
    refine (take_yes _ rb t s 60 hr1 hp hs Q1.out).mono ?_
    rintro e w2 ⟨rfl, hr2, hg2⟩
    go_wp2_with fail
    go_ret
    rw [hv.out]
    exact ⟨rfl, hr2, (gb_trans hg1 hg2)⟩
  by_cases q2 : Sv.look t s = 62
  · have hv : Hid (Sv.relation t s = (2, ⟨s.p + 1, s.f⟩)) := by unfold Hid Sv.relation; rw [if_neg q0, if_neg q1, if_pos q2]
    have Q0 : Hid (Sv.look t s ≠ 61) := q0
    have Q1 : Hid (Sv.look t s ≠ 60) := q1
    have Q2 : Hid (Sv.look t s = 62) := q2
    clear q0 q1 q2
    go_enter Try.func107, Try.ntmps107
    go_wp2_with fail
    refine (take_no _ rb t s 61 h hp hs Q0.out).mono ?_
    rintro e w1 ⟨rfl, hr1, hg1⟩
    go_wp2_with fail
    refine (take_no _ rb t s 60 hr1 hp hs Q1.out).mono ?_
    rintro e w2 ⟨rfl, hr2, hg2⟩
    go_wp2_with fail
    refine (take_yes _ rb t s 62 hr2 hp hs Q2.out).mono ?_
    rintro e w3 ⟨rfl, hr3, hg3⟩
    go_wp2_with fail
    go_ret
    rw [hv.out]
    exact ⟨rfl, hr3, (gb_trans (gb_trans hg1 hg2) hg3)⟩
  have hv : Hid (Sv.relation t s = (0, ⟨s.p, true⟩)) := by unfold Hid Sv.relation; rw [if_neg q0, if_neg q1, if_neg q2]
  have Q0 : Hid (Sv.look t s ≠ 61) := q0
  have Q1 : Hid (Sv.look t s ≠ 60) := q1
  have Q2 : Hid (Sv.look t s ≠ 62) := q2
  clear q0 q1 q2
  go_enter Try.func107, Try.ntmps107
  go_wp2_with fail
  refine (take_no _ rb t s 61 h hp hs Q0.out).mono ?_
  rintro e w1 ⟨rfl, hr1, hg1⟩
  go_wp2_with fail
  refine (take_no _ rb t s 60 hr1 hp hs Q1.out).mono ?_
  rintro e w2 ⟨rfl, hr2, hg2⟩
  go_wp2_with fail
  refine (take_no _ rb t s 62 hr2 hp hs Q2.out).mono ?_
  rintro e w3 ⟨rfl, hr3, hg3⟩
  have f2 := hr3.fz 2
  have c2 := hr3.c2
  go_wp2_with fail
  go_ret
  rw [hv.out]
  exact ⟨rfl, hr3.set2 true, gb_set (gb_trans (gb_trans hg1 hg2) hg3) _ _⟩

set_option maxHeartbeats 400000 in
theorem short_any (w : World) (rb : Nat) (t : ByteArray) (s : Sv.St) (k : Int) (h : RdAt w rb t s) (hp : s.p ≤ t.size) (hs : t.size ≤ 600) :
    Calls Try.prog 104 #[.pointer (some ⟨rb, 0, none⟩), .int .i64 k] w fun e w' => e = .returned (.agg (tmCells (Sv.short t k s).1)) ∧ RdEnd w w' rb t (Sv.short t k s).2 := by
  have hrb := h.lt
  have hne : w.heap.size ≠ rb := by omega
  go_enter Try.func104, Try.ntmps104
  go_wp2_with fail
  refine (relation_any _ rb t s (h.alloc _) hp hs).mono ?_
  rintro e w1 ⟨rfl, hr1, hg1⟩
  have hp1 := (Sv_relation_p t s hp).1
  go_wp2_with fail
  refine (word_any _ rb t _ hr1 hp1 hs).mono ?_
  rintro e w2 ⟨rfl, hr2, hg2⟩
  have hb := ((Blk.new w _ _).keep hg1 (by simpa using hne)).keep hg2 (by simpa using hne)
  have b0 := hb.cell 0
  have b1 := hb.cell 1
  have b2 := hb.cell 2
  have b3 := hb.cell 3
  have b4 := hb.cell 4
  have b5 := hb.cell 5
  have b6 := hb.cell 6
  have bf := hb.fz
  simp at b0 b1 b2 b3 b4 b5 b6
  go_wp2_with fail
  exact bodyPost_ret (v := .agg (tmCells (Sv.short t k s).1)) (by simp [results, Try.results104, go_sem, b0, b1, b2, b3, b4, b5, b6, Sv.short, tmCells]) rfl
    ⟨rfl, (((((((hr2.other hne _ _).other hne _ _).other hne _ _).other hne _ _).other hne _ _).other hne _ _).other hne _ _),
      gb_own (gb_own (gb_own (gb_own (gb_own (gb_own (gb_own (gb_trans (gb_unalloc hg1) hg2) (Nat.le_refl _) _ _) (Nat.le_refl _) _ _) (Nat.le_refl _) _ _) (Nat.le_refl _) _ _) (Nat.le_refl _) _ _) (Nat.le_refl _) _ _) (Nat.le_refl _) _ _⟩
end Go.Proofs.Ytibgffbcbhphdaa
