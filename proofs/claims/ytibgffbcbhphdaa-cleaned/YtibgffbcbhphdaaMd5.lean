/- One step of a run: the program's walk. -/
import Derived.Test.YtibgffbcbhphdaaMd4
namespace Go.Proofs.Ytibgffbcbhphdaa
open Go.RowKit
set_option linter.unusedVariables false
set_option linter.unusedSimpArgs false

def McOk (m : Sc.Mc) : Prop := 0 ≤ m.a ∧ m.a ≤ 65535 ∧ 0 ≤ m.c0 ∧ m.c0 ≤ 65535 ∧ 0 ≤ m.c1 ∧ m.c1 ≤ 65535 ∧ 0 ≤ m.c2 ∧ m.c2 ≤ 65535 ∧ 0 ≤ m.c3 ∧ m.c3 ≤ 65535
/-- an instruction that a sound code may do -/
def DoOk (x : Sc.In) : Prop := InRng x ∧ (x.op = 1 → x.k % 2 = 0 ∧ x.k ≤ 18) ∧ (x.op = 3 ∨ x.op = 4 → x.k ≤ 3) ∧ (x.op = 8 → x.k ≠ 0) ∧ (x.op = 9 → x.k ≤ 15)
theorem doOk_of (x : Sc.In) (left : Int) (hx : InRng x) (h : Sc.wrongE x left = 0) : DoOk x := by
  have hm : Sc.mayB x = true := by
    unfold Sc.wrongE at h
    split at h
    · cases h
    · split at h
      · cases h
      · split at h
        · cases h
        · next q => simpa using q
  unfold Sc.mayB at hm
  obtain ⟨op, t, f, k⟩ := x
  simp only at hm
  split at hm
  · cases hm
  · refine ⟨hx, ?_, ?_, ?_, ?_⟩ <;> intro q <;> simp only at q ⊢
    · rw [if_pos q] at hm; simpa using hm
    · rw [if_neg (by omega), if_pos q] at hm; simpa using hm
    · rw [if_neg (by omega), if_neg (by omega), if_pos q] at hm; have : 0 < k := by simpa using hm
      omega
    · rw [if_neg (by omega), if_neg (by omega), if_neg (by omega), if_pos q] at hm; simpa using hm
def mcCells (m : Sc.Mc) : Array Value := #[.int .i64 m.a, .int .i64 m.c0, .int .i64 m.c1, .int .i64 m.c2, .int .i64 m.c3]
def StAt (w : World) (sb : Nat) (m : Sc.Mc) : Prop := Blk w sb 108 (mcCells m)
theorem cellGet_rng (m : Sc.Mc) (k : Int) (h : McOk m) : 0 ≤ Sc.cellGet m k ∧ Sc.cellGet m k ≤ 65535 := by
  obtain ⟨h0, h1, h2, h3, h4, h5, h6, h7, h8, h9⟩ := h
  unfold Sc.cellGet
  repeat' split
  all_goals omega
theorem stepM_rng (r : ByteArray) (x : Sc.In) (m : Sc.Mc) (hr : r.size = 20) (hx : DoOk x) (h : McOk m) : McOk (Sc.stepM r x m) := by
  have hc := cellGet_rng m x.k h
  obtain ⟨h0, h1, h2, h3, h4, h5, h6, h7, h8, h9⟩ := h
  obtain ⟨⟨x1, x2, x3, x4, x5, x6, x7, x8⟩, y1, y2, y3, y4⟩ := hx
  have hb := becomes_rng x m.a h0 h1 x7 x8
  unfold Sc.stepM
  split
  · next q =>
    have := wordAt_range hr x7 (y1 q).2
    exact ⟨this.1, by simp only; omega, h2, h3, h4, h5, h6, h7, h8, h9⟩
  · split
    · exact ⟨x7, x8, h2, h3, h4, h5, h6, h7, h8, h9⟩
    · split
      · exact ⟨hc.1, hc.2, h2, h3, h4, h5, h6, h7, h8, h9⟩
      · split
        · unfold Sc.cellSet
          repeat' split
          · exact ⟨h0, h1, h0, h1, h4, h5, h6, h7, h8, h9⟩
          · exact ⟨h0, h1, h2, h3, h0, h1, h6, h7, h8, h9⟩
          · exact ⟨h0, h1, h2, h3, h4, h5, h0, h1, h8, h9⟩
          · exact ⟨h0, h1, h2, h3, h4, h5, h6, h7, h0, h1⟩
        · exact ⟨hb.1, hb.2, h2, h3, h4, h5, h6, h7, h8, h9⟩

set_option maxRecDepth 100000 in
set_option maxHeartbeats 4000000 in
theorem mDo_any (w : World) (sb : Nat) (m : Sc.Mc) (x : Sc.In) (r : ByteArray) (hB : StAt w sb m) (hm : McOk m) (hx : DoOk x) (hr : r.size = 20) :
    Calls Try.prog 70 #[.pointer (some ⟨sb, 0, none⟩), .agg (inCells x), .string r] w fun e w' => e = .returned (.tuple #[]) ∧ StAt w' sb (Sc.stepM r x m) ∧ w.grownBy w' (some sb) := by
  obtain ⟨a, c0, c1, c2, c3⟩ := m
  obtain ⟨op, t, f, k⟩ := x
  obtain ⟨m0, m1, -, -, -, -, -, -, -, -⟩ := hm
  obtain ⟨⟨x1, x2, x3, x4, x5, x6, x7, x8⟩, y1, y2, y3, y4⟩ := hx
  simp only at m0 m1 x1 x2 x7 x8 y1 y2 y3 y4
  have HB := hid hB
  unfold StAt at hB
  simp only [mcCells] at hB
  have b0 := hB.cell 0
  have b1 := hB.cell 1
  have b2 := hB.cell 2
  have b3 := hB.cell 3
  have b4 := hB.cell 4
  have bf := hB.fz
  have hlt := hB.lt
  have hne : w.heap.size ≠ sb := by omega
  simp at b0 b1 b2 b3 b4
  simp only [inCells]
  clear x3 x4 x5 x6 hB
  by_cases q1 : op = 1
  · subst q1
    have hA := fun w => at_any w r k hr x7 (y1 rfl).2
    have hv : Hid (Sc.stepM r ⟨1, t, f, k⟩ ⟨a, c0, c1, c2, c3⟩ = ⟨Sv.wordAt r k, c0, c1, c2, c3⟩) := rfl
    clear y1 y2 y3 y4
    go_enter Try.func70, Try.ntmps70
    go_wp2_with fail
    refine (hA _).mono ?_
    rintro e w1 ⟨rfl, n, rfl⟩
    clear hA
    go_wp2_with fail
    go_end0
    rw [hv.out]
    exact ⟨rfl, Blk.set (Blk.alloc HB.out _) 0 _, gb_set (gb_drewN (gb_alloc (gb_refl _ _) _) _) _ _⟩
  by_cases q2 : op = 2
  · subst q2
    have hv : Hid (Sc.stepM r ⟨2, t, f, k⟩ ⟨a, c0, c1, c2, c3⟩ = ⟨k, c0, c1, c2, c3⟩) := rfl
    clear y1 y2 y3 y4
    go_enter Try.func70, Try.ntmps70
    go_wp2_with fail
    go_end0
    rw [hv.out]
    exact ⟨rfl, Blk.alloc (Blk.set HB.out 0 _) _, gb_alloc (gb_set (gb_refl _ _) _ _) _⟩
  have hW := fun w => mWithin_any w k 3
  by_cases q3 : op = 3
  · subst q3
    have hk3 := y2 (Or.inl rfl)
    have hk2 : (0 ≤ k ∧ k ≤ 3) := ⟨x7, hk3⟩
    simp only [hk2, and_self, decide_true] at hW
    clear y1 y2 y3 y4
    have hkc : k = 0 ∨ k = 1 ∨ k = 2 ∨ k = 3 := by omega
    clear hk2 hk3 x7 x8
    rcases hkc with rfl | rfl | rfl | rfl
    · have hv : Hid (Sc.stepM r ⟨3, t, f, 0⟩ ⟨a, c0, c1, c2, c3⟩ = ⟨c0, c0, c1, c2, c3⟩) := rfl
      go_enter Try.func70, Try.ntmps70
      go_wp2_with fail
      refine (hW _).mono ?_
      rintro e w1 ⟨rfl, rfl⟩
      clear hW
      go_wp2_with fail
      go_region
      go_wp2_with fail
      go_end0
      rw [hv.out]
      exact ⟨rfl, Blk.drew (Blk.alloc (Blk.set HB.out 0 _) _), gb_drew (gb_alloc (gb_set (gb_refl _ _) _ _) _)⟩
    · have hv : Hid (Sc.stepM r ⟨3, t, f, 1⟩ ⟨a, c0, c1, c2, c3⟩ = ⟨c1, c0, c1, c2, c3⟩) := rfl
      go_enter Try.func70, Try.ntmps70
      go_wp2_with fail
      refine (hW _).mono ?_
      rintro e w1 ⟨rfl, rfl⟩
      clear hW
      go_wp2_with fail
      go_region
      go_wp2_with fail
      go_end0
      rw [hv.out]
      exact ⟨rfl, Blk.drew (Blk.alloc (Blk.set HB.out 0 _) _), gb_drew (gb_alloc (gb_set (gb_refl _ _) _ _) _)⟩
    · have hv : Hid (Sc.stepM r ⟨3, t, f, 2⟩ ⟨a, c0, c1, c2, c3⟩ = ⟨c2, c0, c1, c2, c3⟩) := rfl
      go_enter Try.func70, Try.ntmps70
      go_wp2_with fail
      refine (hW _).mono ?_
      rintro e w1 ⟨rfl, rfl⟩
      clear hW
      go_wp2_with fail
      go_region
      go_wp2_with fail
      go_end0
      rw [hv.out]
      exact ⟨rfl, Blk.drew (Blk.alloc (Blk.set HB.out 0 _) _), gb_drew (gb_alloc (gb_set (gb_refl _ _) _ _) _)⟩
    · have hv : Hid (Sc.stepM r ⟨3, t, f, 3⟩ ⟨a, c0, c1, c2, c3⟩ = ⟨c3, c0, c1, c2, c3⟩) := rfl
      go_enter Try.func70, Try.ntmps70
      go_wp2_with fail
      refine (hW _).mono ?_
      rintro e w1 ⟨rfl, rfl⟩
      clear hW
      go_wp2_with fail
      go_region
      go_wp2_with fail
      go_end0
      rw [hv.out]
      exact ⟨rfl, Blk.drew (Blk.alloc (Blk.set HB.out 0 _) _), gb_drew (gb_alloc (gb_set (gb_refl _ _) _ _) _)⟩
  by_cases q4 : op = 4
  · subst q4
    have hk3 := y2 (Or.inr rfl)
    have hk2 : (0 ≤ k ∧ k ≤ 3) := ⟨x7, hk3⟩
    simp only [hk2, and_self, decide_true] at hW
    clear y1 y2 y3 y4
    have hkc : k = 0 ∨ k = 1 ∨ k = 2 ∨ k = 3 := by omega
    clear hk2 hk3 x7 x8
    rcases hkc with rfl | rfl | rfl | rfl
    · have hv : Hid (Sc.stepM r ⟨4, t, f, 0⟩ ⟨a, c0, c1, c2, c3⟩ = ⟨a, a, c1, c2, c3⟩) := rfl
      go_enter Try.func70, Try.ntmps70
      go_wp2_with fail
      refine (hW _).mono ?_
      rintro e w1 ⟨rfl, rfl⟩
      clear hW
      go_wp2_with fail
      go_region
      go_wp2_with fail
      go_end0
      rw [hv.out]
      exact ⟨rfl, Blk.drew (Blk.alloc (Blk.set HB.out 1 _) _), gb_drew (gb_alloc (gb_set (gb_refl _ _) _ _) _)⟩
    · have hv : Hid (Sc.stepM r ⟨4, t, f, 1⟩ ⟨a, c0, c1, c2, c3⟩ = ⟨a, c0, a, c2, c3⟩) := rfl
      go_enter Try.func70, Try.ntmps70
      go_wp2_with fail
      refine (hW _).mono ?_
      rintro e w1 ⟨rfl, rfl⟩
      clear hW
      go_wp2_with fail
      go_region
      go_wp2_with fail
      go_end0
      rw [hv.out]
      exact ⟨rfl, Blk.drew (Blk.alloc (Blk.set HB.out 2 _) _), gb_drew (gb_alloc (gb_set (gb_refl _ _) _ _) _)⟩
    · have hv : Hid (Sc.stepM r ⟨4, t, f, 2⟩ ⟨a, c0, c1, c2, c3⟩ = ⟨a, c0, c1, a, c3⟩) := rfl
      go_enter Try.func70, Try.ntmps70
      go_wp2_with fail
      refine (hW _).mono ?_
      rintro e w1 ⟨rfl, rfl⟩
      clear hW
      go_wp2_with fail
      go_region
      go_wp2_with fail
      go_end0
      rw [hv.out]
      exact ⟨rfl, Blk.drew (Blk.alloc (Blk.set HB.out 3 _) _), gb_drew (gb_alloc (gb_set (gb_refl _ _) _ _) _)⟩
    · have hv : Hid (Sc.stepM r ⟨4, t, f, 3⟩ ⟨a, c0, c1, c2, c3⟩ = ⟨a, c0, c1, c2, a⟩) := rfl
      go_enter Try.func70, Try.ntmps70
      go_wp2_with fail
      refine (hW _).mono ?_
      rintro e w1 ⟨rfl, rfl⟩
      clear hW
      go_wp2_with fail
      go_region
      go_wp2_with fail
      go_end0
      rw [hv.out]
      exact ⟨rfl, Blk.drew (Blk.alloc (Blk.set HB.out 4 _) _), gb_drew (gb_alloc (gb_set (gb_refl _ _) _ _) _)⟩
  have e1 : (op == 1) = false := by simp [q1]
  have e2 : (op == 2) = false := by simp [q2]
  have e3 : (op == 3) = false := by simp [q3]
  have e4 : (op == 4) = false := by simp [q4]
  have hv : Hid (Sc.stepM r ⟨op, t, f, k⟩ ⟨a, c0, c1, c2, c3⟩ = ⟨Sc.becomes ⟨op, t, f, k⟩ a, c0, c1, c2, c3⟩) := by
    unfold Hid Sc.stepM; rw [if_neg q1, if_neg q2, if_neg q3, if_neg q4]
  have hR := hid (fun w => mReckon_any w op t f a k m0 m1 x7 x8 y3 y4)
  generalize Sc.becomes ⟨op, t, f, k⟩ a = z at *
  clear hW y1 y2 y3 y4 q1 q2 q3 q4
  go_enter Try.func70, Try.ntmps70
  go_wp2_with fail
  go_region_with (go_at_call 82; refine (hR.out _).mono ?_; rintro e w' ⟨rfl, rfl⟩)
  all_goals
    go_wp2_with fail
    go_end0
    rw [hv.out]
    exact ⟨rfl, Blk.drew (Blk.alloc (Blk.set HB.out 0 _) _), gb_drew (gb_alloc (gb_set (gb_refl _ _) _ _) _)⟩
end Go.Proofs.Ytibgffbcbhphdaa
