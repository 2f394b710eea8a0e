import Derived.Test.YtibgffbcbhphdaaRd6
namespace Go.Proofs.Ytibgffbcbhphdaa
open Go.RowKit
set_option linter.unusedVariables false
set_option linter.unusedSimpArgs false

theorem gb_none {a b : World} {rb : Nat} (h : a.grownBy b (some rb)) (hr : a.heap.size ≤ rb) : a.grownBy b none :=
  ⟨h.os, h.tape, h.output, h.size, fun k hk _ => h.block k hk (by simp; omega)⟩
theorem gb_below {a b : World} (h : a.grownBy b none) : Below a.heap.size a b := ⟨h.os, h.tape, h.output, h.size, fun k hk => h.block k hk (by simp)⟩

theorem PolAt.set {w : World} {B : Nat} {pv : Value} {R : List (List Sv.Tm × Int)} (h : PolAt w B pv R) {b : Nat} (hb : b < B) (o : Nat) (u : Value) : PolAt (w.setCell ⟨b, o, none⟩ u) B pv R := by
  obtain ⟨L, h1, h2, h3⟩ := h
  exact ⟨L, h1, ownsRow_setCell_below h2 (by simpa using hb) u, h3.set hb o u⟩
theorem PolAt.alloc {w : World} {B : Nat} {pv : Value} {R : List (List Sv.Tm × Int)} (h : PolAt w B pv R) (o : Obj) : PolAt (w.alloc o) B pv R := by
  obtain ⟨L, h1, h2, h3⟩ := h
  exact ⟨L, h1, h2.alloc o, h3.alloc o⟩
theorem PolAt.base {w : World} {B B' : Nat} {pv : Value} {R : List (List Sv.Tm × Int)} (h : PolAt w B pv R) (hb : B' ≤ B) : PolAt w B' pv R := by
  obtain ⟨L, h1, h2, h3⟩ := h
  exact ⟨L, h1, owns_base h2 hb, fun x hx => owns_base (h3 x hx) hb⟩
theorem PolAt.keep {w w' : World} {B : Nat} {pv : Value} {R : List (List Sv.Tm × Int)} (h : PolAt w B pv R) (hg : w.grownBy w' none) : PolAt w' B pv R := by
  obtain ⟨L, h1, h2, h3⟩ := h
  have hn : ∀ v : Value, v.ownBlock = none ∨ v.ownBlock ≠ none := fun v => by cases v.ownBlock <;> simp
  exact ⟨L, h1, h2.kept hg (hn _), fun x hx => (h3 x hx).kept hg (hn _)⟩

set_option maxRecDepth 100000 in
set_option maxHeartbeats 1000000 in
theorem parse_long (w : World) (t : ByteArray) (hm : t.size ≤ maxLen) (hs : 600 < t.size) :
    Calls Try.prog 45 #[.string t] w fun e w' => e = .returned (.tuple #[.agg #[.slice none 0 0, .int .i64 0], .int .i64 1, .int .i64 0]) ∧ w.grownBy w' none := by
  unfold maxLen at hm
  go_enter Try.func45, Try.ntmps45
  go_wp2
  refine bodyPost_ret (v := .tuple #[.agg #[.slice none 0 0, .int .i64 0], .int .i64 1, .int .i64 0]) (by simp [results, Try.results45, go_sem]) rfl ⟨rfl, ?_⟩
  exact gb_alloc (gb_refl _ _) _

set_option maxRecDepth 100000 in
set_option maxHeartbeats 1000000 in
theorem parse_ok (w : World) (t : ByteArray) (hs : t.size ≤ 600) (hf : Hid ((Sv.policy t ⟨0, false⟩).2.f = false)) :
    Calls Try.prog 45 #[.string t] w fun e w' => ∃ pa pc, e = .returned (.tuple #[.agg #[.slice pa (Sv.policy t ⟨0, false⟩).1.1.length pc, .int .i64 (Sv.policy t ⟨0, false⟩).1.2], .int .i64 0, .int .i64 0]) ∧ w.grownBy w' none ∧
      PolAt w' w.heap.size (.slice pa (Sv.policy t ⟨0, false⟩).1.1.length pc) (Sv.policy t ⟨0, false⟩).1.1 := by
  have hr0 : RdAt ((w.alloc (.cells #[.slice none 0 0, .int .i64 0] 75)).alloc (.cells #[.string t, .int .i64 0, .bool false] 86)) (w.heap.size + 1) t ⟨0, false⟩ := by
    have := Blk.new (w.alloc (.cells #[.slice none 0 0, .int .i64 0] 75)) 86 #[.string t, .int .i64 0, .bool false]
    unfold RdAt; unfold Blk at this; simpa using this
  have hP := policy_any _ (w.heap.size + 1) t ⟨0, false⟩ hr0 (Nat.zero_le _) hs
  generalize Sv.policy t ⟨0, false⟩ = X at *
  obtain ⟨⟨R, d⟩, s1⟩ := X
  go_enter Try.func45, Try.ntmps45
  go_wp2_with fail
  refine hP.mono ?_
  clear hP
  rintro e w1 ⟨pa, pc, rfl, ⟨hr1, hg1⟩, hpol⟩
  have c2 := hr1.c2
  simp only [hf.out] at c2
  have hz := hg1.size
  simp at hz
  have B0 := ((Blk.new w 75 #[.slice none 0 0, .int .i64 0]).alloc (.cells #[.string t, .int .i64 0, .bool false] 86)).keep hg1 (by simp)
  have y0 := B0.cell 0
  have y1 := B0.cell 1
  have yf := B0.fz
  simp at y0 y1
  have hlt1 : w.heap.size + 1 < w1.heap.size := by omega
  have hlt0 : w.heap.size < w1.heap.size := by omega
  have Hg := hid hg1
  have Hp := hid hpol
  clear hg1 hpol hr0
  go_wp2_with fail
  refine bodyPost_ret (v := .tuple #[.agg #[.slice pa R.length pc, .int .i64 d], .int .i64 0, .int .i64 0]) (by simp [results, Try.results45, go_sem, y0, y1, hlt0]) rfl ⟨pa, pc, rfl, ?_, ?_⟩
  · exact gb_alloc (gb_own (gb_own (gb_none (gb_unalloc (gb_unalloc Hg.out)) (by omega)) (Nat.le_refl _) _ _) (Nat.le_refl _) _ _) _
  · refine PolAt.base (B := w.heap.size + 2) ?_ (by omega)
    have := Hp.out
    simp only [World.size_alloc] at this
    exact ((this.set (by omega) _ _).set (by omega) _ _).alloc _

set_option maxRecDepth 100000 in
set_option maxHeartbeats 1000000 in
theorem parse_form (w : World) (t : ByteArray) (hs : t.size ≤ 600) (hf : Hid ((Sv.policy t ⟨0, false⟩).2.f = true)) :
    Calls Try.prog 45 #[.string t] w fun e w' => e = .returned (.tuple #[.agg #[.slice none 0 0, .int .i64 0], .int .i64 2, .int .i64 (Sv.policy t ⟨0, false⟩).2.p]) ∧ w.grownBy w' none := by
  have hr0 : RdAt ((w.alloc (.cells #[.slice none 0 0, .int .i64 0] 75)).alloc (.cells #[.string t, .int .i64 0, .bool false] 86)) (w.heap.size + 1) t ⟨0, false⟩ := by
    have := Blk.new (w.alloc (.cells #[.slice none 0 0, .int .i64 0] 75)) 86 #[.string t, .int .i64 0, .bool false]
    unfold RdAt; unfold Blk at this; simpa using this
  have hP := policy_any _ (w.heap.size + 1) t ⟨0, false⟩ hr0 (Nat.zero_le _) hs
  generalize Sv.policy t ⟨0, false⟩ = X at *
  obtain ⟨⟨R, d⟩, s1⟩ := X
  go_enter Try.func45, Try.ntmps45
  go_wp2_with fail
  refine hP.mono ?_
  clear hP
  rintro e w1 ⟨pa, pc, rfl, ⟨hr1, hg1⟩, hpol⟩
  have c1 := hr1.c1
  have c2 := hr1.c2
  simp only [hf.out] at c2
  have hz := hg1.size
  simp at hz
  have B0 := ((Blk.new w 75 #[.slice none 0 0, .int .i64 0]).alloc (.cells #[.string t, .int .i64 0, .bool false] 86)).keep hg1 (by simp)
  have y0 := B0.cell 0
  have y1 := B0.cell 1
  have yf := B0.fz
  simp at y0 y1
  have hlt1 : w.heap.size + 1 < w1.heap.size := by omega
  have hlt0 : w.heap.size < w1.heap.size := by omega
  have Hg := hid hg1
  clear hg1 hpol hr0
  go_wp2_with fail
  go_region
  go_wp2
  refine bodyPost_ret (v := .tuple #[.agg #[.slice none 0 0, .int .i64 0], .int .i64 2, .int .i64 s1.p]) (by simp [results, Try.results45, go_sem, y0, y1, hlt0]) rfl ⟨rfl, ?_⟩
  exact gb_drew (gb_alloc (gb_own (gb_own (gb_none (gb_unalloc (gb_unalloc Hg.out)) (by omega)) (Nat.le_refl _) _ _) (Nat.le_refl _) _ _) _)
end Go.Proofs.Ytibgffbcbhphdaa
