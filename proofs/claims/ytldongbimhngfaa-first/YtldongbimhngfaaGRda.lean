import Derived.Test.YtldongbimhngfaaRows
import Derived.Test.YtldongbimhngfaaSpec
import Derived.WalkKit
import Derived.WalkLawsBesides
import Derived.Below
import Derived.BigQuiet
import Derived.Deep.QuietTactic
namespace Go.Proofs.Ytldongbimhngfaa
open Go.RowKit
set_option linter.unusedVariables false
set_option linter.unusedSimpArgs false

/-- the reader's block -/
def RdAt (w : World) (rb : Nat) (t : ByteArray) (s : Sv.St) : Prop :=
  w.heap[rb]? = some (.cells #[.string t, .int .i64 s.p, .bool s.f] 88 (0, 0))

theorem RdAt.c0 {w : World} {rb : Nat} {t : ByteArray} {s : Sv.St} (h : RdAt w rb t s) : w.cell? ⟨rb, 0, none⟩ = some (.string t) := by
  unfold RdAt at h; simp [World.cell?, h]
theorem RdAt.c1 {w : World} {rb : Nat} {t : ByteArray} {s : Sv.St} (h : RdAt w rb t s) : w.cell? ⟨rb, 1, none⟩ = some (.int .i64 s.p) := by
  unfold RdAt at h; simp [World.cell?, h]
theorem RdAt.c2 {w : World} {rb : Nat} {t : ByteArray} {s : Sv.St} (h : RdAt w rb t s) : w.cell? ⟨rb, 2, none⟩ = some (.bool s.f) := by
  unfold RdAt at h; simp [World.cell?, h]
theorem RdAt.fz {w : World} {rb : Nat} {t : ByteArray} {s : Sv.St} (h : RdAt w rb t s) (o : Nat) : w.frozen? ⟨rb, o, none⟩ = false := by
  unfold RdAt at h; simp [World.frozen?, h]
theorem RdAt.drewN {w : World} {rb : Nat} {t : ByteArray} {s : Sv.St} (h : RdAt w rb t s) (n : Nat) : RdAt (w.drewN n) rb t s := h
theorem RdAt.set1 {w : World} {rb : Nat} {t : ByteArray} {s : Sv.St} (h : RdAt w rb t s) (i : Int) (q : Nat) (hq : i = q) : RdAt (w.setCell ⟨rb, 1, none⟩ (.int .i64 i)) rb t ⟨q, s.f⟩ := by
  unfold RdAt at *; subst hq; simp [World.setCell, Array.getElem?_modify, h]
theorem RdAt.set2 {w : World} {rb : Nat} {t : ByteArray} {s : Sv.St} (h : RdAt w rb t s) (b : Bool) : RdAt (w.setCell ⟨rb, 2, none⟩ (.bool b)) rb t ⟨s.p, b⟩ := by
  unfold RdAt at *; simp [World.setCell, Array.getElem?_modify, h]
theorem RdAt.lt {w : World} {rb : Nat} {t : ByteArray} {s : Sv.St} (h : RdAt w rb t s) : rb < w.heap.size := by
  unfold RdAt at h; exact (Array.getElem?_eq_some_iff.1 h).1

theorem gb_refl (w : World) (r : Option Nat) : w.grownBy w r := ⟨rfl, rfl, rfl, Nat.le_refl _, fun _ _ _ => rfl⟩
theorem gb_trans {a b c : World} {r : Option Nat} (h : a.grownBy b r) (k : b.grownBy c r) : a.grownBy c r :=
  ⟨k.os.trans h.os, k.tape.trans h.tape, k.output.trans h.output, Nat.le_trans h.size k.size, fun i hi hr => (k.block i (Nat.lt_of_lt_of_le hi h.size) hr).trans (h.block i hi hr)⟩
theorem gb_drewN {a b : World} {r : Option Nat} (h : a.grownBy b r) (n : Nat) : a.grownBy (b.drewN n) r := ⟨h.os, h.tape, h.output, h.size, h.block⟩
theorem gb_drew {a b : World} {r : Option Nat} (h : a.grownBy b r) : a.grownBy b.drew r := ⟨h.os, h.tape, h.output, h.size, h.block⟩
theorem gb_set {a b : World} {rb : Nat} (h : a.grownBy b (some rb)) (o : Nat) (v : Value) : a.grownBy (b.setCell ⟨rb, o, none⟩ v) (some rb) :=
  gb_trans h ⟨rfl, rfl, rfl, by simp [World.setCell], fun k _ hr => Below.heap_setCell _ _ _ _ (by intro e; apply hr; simp at e; rw [e])⟩
theorem gb_alloc {a b : World} {r : Option Nat} (h : a.grownBy b r) (o : Obj) : a.grownBy (b.alloc o) r := gb_trans h (World.grownBy_alloc b o r)

/-- the end of a reader's call -/
def RdEnd (w w' : World) (rb : Nat) (t : ByteArray) (s' : Sv.St) : Prop := RdAt w' rb t s' ∧ w.grownBy w' (some rb)

theorem wrap_byte (b : UInt8) : wrap64 (b.toNat : Int) = (b.toNat : Int) := by
  have := b.toNat_lt
  exact IntWalk.wrap64_in _ ⟨by omega, by omega⟩

set_option maxHeartbeats 400000 in
theorem look_any (w : World) (rb : Nat) (t : ByteArray) (s : Sv.St) (h : RdAt w rb t s) (hs : t.size ≤ 600) :
    Calls Try.prog 89 #[.pointer (some ⟨rb, 0, none⟩)] w fun e w' => e = .returned (.int .i64 (Sv.look t s)) ∧ ∃ n, w' = w.drewN n := by
  have c0 := h.c0
  have c1 := h.c1
  have c2 := h.c2
  obtain ⟨p, f⟩ := s
  simp only at c0 c1 c2
  clear h
  cases f
  · by_cases hlt : p < t.size
    · have hd : decide ((t.size : Int) ≤ (p : Int)) = false := by simp; omega
      have hl : Hid (Sv.look t ⟨p, false⟩ = (t[p].toNat : Int)) := by simp [Hid, Sv.look, Sv.byteAt, hlt]
      go_enter Try.func89, Try.ntmps89
      go_wp2
      go_quiet (fail)
      go_wp2
      go_quiet (fail)
      go_wp2
      go_ret
      exact ⟨by rw [hl.out]; simp [wrap_byte], _, World.drewN_drewN _ _ _⟩
    · have hd : decide ((t.size : Int) ≤ (p : Int)) = true := by simp; omega
      have hl : Hid (Sv.look t ⟨p, false⟩ = -1) := by simp [Hid, Sv.look, Sv.byteAt, hlt]
      go_enter Try.func89, Try.ntmps89
      go_wp2
      go_quiet (fail)
      go_wp2
      go_ret
      exact ⟨by rw [hl.out]; simp, _, rfl⟩
  · have hl : Hid (Sv.look t ⟨p, true⟩ = -1) := by simp [Hid, Sv.look]
    go_enter Try.func89, Try.ntmps89
    go_wp2
    go_quiet (fail)
    go_wp2
    go_ret
    exact ⟨by rw [hl.out]; simp, _, rfl⟩

theorem look_ge (t : ByteArray) (s : Sv.St) : -1 ≤ Sv.look t s := by unfold Sv.look; split; omega; exact Sv.byteAt_ge _ _
theorem look_lt (t : ByteArray) (s : Sv.St) : Sv.look t s < 256 := by unfold Sv.look; split; omega; exact Sv.byteAt_lt _ _

set_option maxHeartbeats 400000 in
theorem take_any (w : World) (rb : Nat) (t : ByteArray) (s : Sv.St) (b : Int) (h : RdAt w rb t s) (hp : s.p ≤ t.size) (hs : t.size ≤ 600) :
    Calls Try.prog 70 #[.pointer (some ⟨rb, 0, none⟩), .int .i64 b] w fun e w' => e = .returned (.bool (Sv.take t b s).1) ∧ RdEnd w w' rb t (Sv.take t b s).2 := by
  have c1 := h.c1
  have f1 := h.fz 1
  by_cases hb : Sv.look t s = b
  · have hne : (Sv.look t s != b) = false := by simp [hb]
    have hl : Hid (Sv.take t b s = (true, ⟨s.p + 1, s.f⟩)) := by simp [Hid, Sv.take, hb]
    clear hb
    go_enter Try.func70, Try.ntmps70
    go_wp2_with fail
    refine (look_any _ rb t s h hs).mono ?_
    rintro e w1 ⟨rfl, n, rfl⟩
    go_wp2_with fail
    go_ret
    rw [hl.out]
    exact ⟨rfl, (h.drewN n).set1 _ _ (by simp), gb_set (gb_drewN (gb_refl _ _) _) _ _⟩
  · have hne : (Sv.look t s != b) = true := by simp [hb]
    have hl : Hid (Sv.take t b s = (false, s)) := by simp [Hid, Sv.take, hb]
    clear hb
    go_enter Try.func70, Try.ntmps70
    go_wp2_with fail
    refine (look_any _ rb t s h hs).mono ?_
    rintro e w1 ⟨rfl, n, rfl⟩
    go_wp2_with fail
    go_ret
    rw [hl.out]
    exact ⟨rfl, h.drewN n, gb_drewN (gb_refl _ _) _⟩

set_option maxHeartbeats 400000 in
theorem need_any (w : World) (rb : Nat) (t : ByteArray) (s : Sv.St) (b : Int) (h : RdAt w rb t s) (hp : s.p ≤ t.size) (hs : t.size ≤ 600) :
    Calls Try.prog 72 #[.pointer (some ⟨rb, 0, none⟩), .int .i64 b] w fun e w' => e = .returned (.tuple #[]) ∧ RdEnd w w' rb t (Sv.need t b s) := by
  by_cases hb : Sv.look t s = b
  · have hl : Hid (Sv.take t b s = (true, ⟨s.p + 1, s.f⟩)) := by simp [Hid, Sv.take, hb]
    have hn : Hid (Sv.need t b s = ⟨s.p + 1, s.f⟩) := by simp [Hid, Sv.need, hb]
    clear hb
    go_enter Try.func72, Try.ntmps72
    go_wp2_with fail
    refine (take_any _ rb t s b h hp hs).mono ?_
    rintro e w1 ⟨rfl, hr⟩
    rw [hl.out] at hr ⊢
    go_wp2_with fail
    go_end0
    rw [hn.out]
    exact ⟨rfl, hr⟩
  · have hl : Hid (Sv.take t b s = (false, s)) := by simp [Hid, Sv.take, hb]
    have hn : Hid (Sv.need t b s = ⟨s.p, true⟩) := by simp [Hid, Sv.need, hb]
    clear hb
    go_enter Try.func72, Try.ntmps72
    go_wp2_with fail
    refine (take_any _ rb t s b h hp hs).mono ?_
    rintro e w1 ⟨rfl, hr⟩
    rw [hl.out] at hr ⊢
    obtain ⟨hr, hg⟩ := hr
    have f2 := hr.fz 2
    have c2 := hr.c2
    go_wp2_with fail
    go_end0
    rw [hn.out]
    exact ⟨rfl, hr.set2 true, gb_set hg _ _⟩

set_option maxHeartbeats 400000 in
theorem needEnd_any (w : World) (rb : Nat) (t : ByteArray) (s : Sv.St) (h : RdAt w rb t s) (hp : s.p ≤ t.size) (hs : t.size ≤ 600) :
    Calls Try.prog 74 #[.pointer (some ⟨rb, 0, none⟩)] w fun e w' => e = .returned (.tuple #[]) ∧ RdEnd w w' rb t (Sv.needEnd t s) := by
  have c0 := h.c0
  have c1 := h.c1
  have c2 := h.c2
  have f2 := h.fz 2
  by_cases hb : s.p < t.size
  · have hd : decide ((s.p : Int) < (t.size : Int)) = true := by simp; omega
    have hn : Hid (Sv.needEnd t s = ⟨s.p, true⟩) := by simp [Hid, Sv.needEnd, hb]
    go_enter Try.func74, Try.ntmps74
    go_wp2
    go_quiet (fail)
    go_wp2
    go_end0
    rw [hn.out]
    exact ⟨rfl, (h.drewN _).set2 true, gb_set (gb_drewN (gb_refl _ _) _) _ _⟩
  · have hd : decide ((s.p : Int) < (t.size : Int)) = false := by simp; omega
    have hn : Hid (Sv.needEnd t s = s) := by simp [Hid, Sv.needEnd, hb]
    go_enter Try.func74, Try.ntmps74
    go_wp2
    go_quiet (fail)
    go_wp2
    go_end0
    rw [hn.out]
    exact ⟨rfl, h.drewN _, gb_drewN (gb_refl _ _) _⟩

set_option maxHeartbeats 400000 in
theorem digit_any (w : World) (rb : Nat) (t : ByteArray) (s : Sv.St) (h : RdAt w rb t s) (hp : s.p ≤ t.size) (hs : t.size ≤ 600) :
    Calls Try.prog 91 #[.pointer (some ⟨rb, 0, none⟩)] w fun e w' => e = .returned (.int .i64 (Sv.digit t s).1) ∧ RdEnd w w' rb t (Sv.digit t s).2 := by
  have c1 := h.c1
  have c2 := h.c2
  have f1 := h.fz 1
  have f2 := h.fz 2
  have hge := look_ge t s
  have hlt := look_lt t s
  have hA : (48 ≤ Sv.look t s ∧ Sv.look t s ≤ 57) → Hid (Sv.digit t s = (Sv.look t s - 48, ⟨s.p + 1, s.f⟩)) := by
    intro hc; unfold Hid Sv.digit; rw [if_pos hc]
  have hB : (97 ≤ Sv.look t s ∧ Sv.look t s ≤ 102) → Hid (Sv.digit t s = (Sv.look t s - 97 + 10, ⟨s.p + 1, s.f⟩)) := by
    intro hc; unfold Hid Sv.digit; rw [if_neg (by omega), if_pos hc]
  have hC : (Sv.look t s < 48 ∨ (57 < Sv.look t s ∧ Sv.look t s < 97) ∨ 102 < Sv.look t s) → Hid (Sv.digit t s = (0, ⟨s.p, true⟩)) := by
    intro hc; unfold Hid Sv.digit; rw [if_neg (by omega), if_neg (by omega)]
  have hlk := look_any (w := w) rb t s h hs
  generalize Sv.look t s = c at *
  have hcase : (48 ≤ c ∧ c ≤ 57) ∨ (97 ≤ c ∧ c ≤ 102) ∨ c < 48 ∨ (57 < c ∧ c < 97) ∨ 102 < c := by omega
  rcases hcase with hc | hc | hc | hc | hc
  · replace hA := hA hc
    obtain ⟨h1, h2⟩ := hc
    clear hB hC
    go_enter Try.func91, Try.ntmps91
    go_wp2_with fail
    refine hlk.mono ?_
    clear hlk
    rintro e w1 ⟨rfl, n, rfl⟩
    go_wp2_with fail
    go_ret
    rw [hA.out]
    exact ⟨rfl, (h.drewN n).set1 _ _ (by simp), gb_set (gb_drewN (gb_refl _ _) _) _ _⟩
  · replace hB := hB hc
    obtain ⟨h1, h2⟩ := hc
    clear hA hC
    go_enter Try.func91, Try.ntmps91
    go_wp2_with fail
    refine hlk.mono ?_
    clear hlk
    rintro e w1 ⟨rfl, n, rfl⟩
    go_wp2_with fail
    go_ret
    rw [hB.out]
    exact ⟨rfl, (h.drewN n).set1 _ _ (by simp), gb_set (gb_drewN (gb_refl _ _) _) _ _⟩
  all_goals
    replace hC := hC (by omega)
    clear hA hB
    go_enter Try.func91, Try.ntmps91
    go_wp2_with fail
    refine hlk.mono ?_
    clear hlk
    rintro e w1 ⟨rfl, n, rfl⟩
    go_wp2_with fail
    go_ret
    rw [hC.out]
    exact ⟨rfl, (h.drewN n).set2 true, gb_set (gb_drewN (gb_refl _ _) _) _ _⟩

theorem Sv_digit_p (t : ByteArray) (s : Sv.St) (hp : s.p ≤ t.size) : (Sv.digit t s).2.p ≤ t.size ∧ 0 ≤ (Sv.digit t s).1 ∧ (Sv.digit t s).1 ≤ 15 := by
  have hl : 0 ≤ Sv.look t s → s.p < t.size := by
    intro h; unfold Sv.look at h; split at h
    · omega
    · exact Sv.lt_of_byteAt h
  unfold Sv.digit
  split
  · simp only; omega
  · split
    · simp only; omega
    · simp only; omega

theorem Sv_wordTo_p (t : ByteArray) (s : Sv.St) (hp : s.p ≤ t.size) (k : Nat) : (Sv.wordTo t s k).2.p ≤ t.size ∧ 0 ≤ (Sv.wordTo t s k).1 ∧ (Sv.wordTo t s k).1 < 16 ^ k := by
  induction k with
  | zero => exact ⟨hp, by simp [Sv.wordTo], by simp [Sv.wordTo]⟩
  | succ k ih =>
    have := Sv_digit_p t _ ih.1
    simp only [Sv.wordTo]
    refine ⟨this.1, by omega, ?_⟩
    rw [Int.pow_succ]; omega
theorem Sv_word_p (t : ByteArray) (s : Sv.St) (hp : s.p ≤ t.size) : (Sv.word t s).2.p ≤ t.size ∧ 0 ≤ (Sv.word t s).1 ∧ (Sv.word t s).1 < 65536 := by
  have := Sv_wordTo_p t s hp 4
  exact ⟨this.1, this.2.1, by have := this.2.2; unfold Sv.word; omega⟩

set_option maxHeartbeats 400000 in
theorem word_any (w : World) (rb : Nat) (t : ByteArray) (s : Sv.St) (h : RdAt w rb t s) (hp : s.p ≤ t.size) (hs : t.size ≤ 600) :
    Calls Try.prog 73 #[.pointer (some ⟨rb, 0, none⟩)] w fun e w' => e = .returned (.int .i64 (Sv.word t s).1) ∧ RdEnd w w' rb t (Sv.word t s).2 := by
  go_enter Try.func73, Try.ntmps73
  go_wp2_with fail
  go_loopw [3, 4] (fun x i wr => ∃ k : Nat, k ≤ 4 ∧ i = .int .i64 k ∧ x = .int .i64 (Sv.wordTo t s k).1 ∧ RdEnd w wr rb t (Sv.wordTo t s k).2) (fun _ i _ => 4 - (intOf i).toNat)
  case atStart => exact ⟨0, by omega, rfl, rfl, h, gb_refl _ _⟩
  case round =>
    obtain ⟨k, hk, rfl, rfl, hr, hg⟩ := hrel
    have hb := Sv_wordTo_p t s hp k
    have hb1 := hb.1
    have hb2 := hb.2.1
    have hb3 : (Sv.wordTo t s k).1 < 65536 := by
      have h4 : (16:Int) ^ k ≤ 16 ^ 4 := by
        have : k = 0 ∨ k = 1 ∨ k = 2 ∨ k = 3 ∨ k = 4 := by omega
        rcases this with rfl | rfl | rfl | rfl | rfl <;> decide
      have := hb.2.2; omega
    have hdg := digit_any wr rb t _ hr hb1 hs
    have hdb := Sv_digit_p t _ hb1
    have hw1 : Hid ((Sv.wordTo t s (k+1)).1 = 16 * (Sv.wordTo t s k).1 + (Sv.digit t (Sv.wordTo t s k).2).1) := rfl
    have hw2 : Hid ((Sv.wordTo t s (k+1)).2 = (Sv.digit t (Sv.wordTo t s k).2).2) := rfl
    clear hb
    by_cases hlt : k < 4
    · have hlt' : (k : Int) < 4 := by omega
      generalize (Sv.wordTo t s k).2 = s1 at *
      generalize (Sv.wordTo t s k).1 = x1 at *
      go_wp2_with fail
      refine hdg.mono ?_
      clear hdg
      rintro e w1 ⟨rfl, hr1, hg1⟩
      have hd0 := hdb.2.1
      have hd1 := hdb.2.2
      generalize (Sv.digit t s1).1 = d at *
      go_wp2_with fail
      go_roundw
      case rel => exact ⟨k + 1, by omega, by go_num, by rw [hw1.out], by rw [hw2.out]; exact ⟨hr1, gb_trans hg hg1⟩⟩
      case measure => simp [intOf]; omega
    · have hk4 : k = 4 := by omega
      subst hk4
      clear hdg hw1 hw2
      go_wp2_with fail
      go_ret
      exact ⟨rfl, hr, hg⟩
end Go.Proofs.Ytldongbimhngfaa
namespace Go.Proofs.Ytldongbimhngfaa
open Go.RowKit
set_option linter.unusedVariables false
set_option linter.unusedSimpArgs false

/-- a term's cells -/
def tmCells (x : Sv.Tm) : Array Value := #[.int .i64 x.kind, .int .i64 x.word, .int .i64 x.mh, .int .i64 x.ml, .int .i64 x.rel, .int .i64 x.wh, .int .i64 x.wl]

/-- a block of cells, not frozen -/
def Blk (w : World) (b : Nat) (T : TypeId) (cs : Array Value) : Prop := w.heap[b]? = some (.cells cs T (0, 0))
theorem Blk.cell {w : World} {b : Nat} {T : TypeId} {cs : Array Value} (h : Blk w b T cs) (o : Nat) : w.cell? ⟨b, o, none⟩ = cs[o]? := by
  unfold Blk at h; simp [World.cell?, h]
theorem Blk.fz {w : World} {b : Nat} {T : TypeId} {cs : Array Value} (h : Blk w b T cs) (o : Nat) : w.frozen? ⟨b, o, none⟩ = false := by
  unfold Blk at h; simp [World.frozen?, h]
theorem Blk.lt {w : World} {b : Nat} {T : TypeId} {cs : Array Value} (h : Blk w b T cs) : b < w.heap.size := by
  unfold Blk at h; exact (Array.getElem?_eq_some_iff.1 h).1
theorem Blk.keep {w w' : World} {b : Nat} {T : TypeId} {cs : Array Value} (h : Blk w b T cs) {r : Option Nat} (hg : w.grownBy w' r) (hr : some b ≠ r) : Blk w' b T cs := by
  unfold Blk; rw [hg.block b h.lt hr]; exact h
theorem Blk.new (w : World) (T : TypeId) (cs : Array Value) : Blk (w.alloc (.cells cs T)) w.heap.size T cs := by
  unfold Blk; exact heap_alloc_new w _
theorem Blk.alloc {w : World} {b : Nat} {T : TypeId} {cs : Array Value} (h : Blk w b T cs) (o : Obj) : Blk (w.alloc o) b T cs := by
  unfold Blk; rw [Below.heap_alloc _ _ _ h.lt]; exact h
theorem Blk.set {w : World} {b : Nat} {T : TypeId} {cs : Array Value} (h : Blk w b T cs) (o : Nat) (v : Value) : Blk (w.setCell ⟨b, o, none⟩ v) b T (cs.setIfInBounds o v) := by
  unfold Blk at *; simp [World.setCell, Array.getElem?_modify, h]
theorem Blk.other {w : World} {b : Nat} {T : TypeId} {cs : Array Value} (h : Blk w b T cs) {c : Nat} (hc : c ≠ b) (o : Nat) (v : Value) : Blk (w.setCell ⟨c, o, none⟩ v) b T cs := by
  unfold Blk at *; rw [Below.heap_setCell _ _ _ _ (by simpa using hc.symm)]; exact h
theorem RdAt.alloc {w : World} {rb : Nat} {t : ByteArray} {s : Sv.St} (h : RdAt w rb t s) (o : Obj) : RdAt (w.alloc o) rb t s := by
  have := h.lt
  unfold RdAt at *; rw [Below.heap_alloc _ _ _ this]; exact h

theorem look_pos (t : ByteArray) (s : Sv.St) (h : 0 ≤ Sv.look t s) : s.p < t.size := by
  unfold Sv.look at h; split at h
  · omega
  · exact Sv.lt_of_byteAt h

theorem Sv_value_p (t : ByteArray) (s : Sv.St) (hp : s.p ≤ t.size) : (Sv.value t s).2.p ≤ t.size :=
  (Sv_word_p t _ (Sv_word_p t s hp).1).1
theorem Sv_index_p (t : ByteArray) (s : Sv.St) (hp : s.p ≤ t.size) : (Sv.index t s).2.p ≤ t.size ∧ 0 ≤ (Sv.index t s).1 ∧ (Sv.index t s).1 ≤ 3 := by
  have := look_pos t s
  unfold Sv.index; split <;> simp only <;> omega
theorem Sv_relation_p (t : ByteArray) (s : Sv.St) (hp : s.p ≤ t.size) : (Sv.relation t s).2.p ≤ t.size ∧ 0 ≤ (Sv.relation t s).1 ∧ (Sv.relation t s).1 ≤ 2 := by
  have := look_pos t s
  unfold Sv.relation
  split
  · simp only; omega
  · split
    · simp only; omega
    · split <;> simp only <;> omega
theorem Sv_need_p (t : ByteArray) (b : Int) (s : Sv.St) (hb : 0 ≤ b) (hp : s.p ≤ t.size) : (Sv.need t b s).p ≤ t.size := by
  have := look_pos t s
  unfold Sv.need; split <;> simp only <;> omega
theorem Sv_take_p (t : ByteArray) (b : Int) (s : Sv.St) (hb : 0 ≤ b) (hp : s.p ≤ t.size) : (Sv.take t b s).2.p ≤ t.size := by
  have := look_pos t s
  unfold Sv.take; split <;> simp only <;> omega


theorem RdAt.other {w : World} {rb : Nat} {t : ByteArray} {s : Sv.St} (h : RdAt w rb t s) {b : Nat} (hb : b ≠ rb) (o : Nat) (v : Value) : RdAt (w.setCell ⟨b, o, none⟩ v) rb t s := by
  unfold RdAt at *; rw [Below.heap_setCell _ _ _ _ (by simpa using hb.symm)]; exact h
theorem gb_own {a b : World} {r : Option Nat} (h : a.grownBy b r) {B : Nat} (hB : a.heap.size ≤ B) (o : Nat) (v : Value) : a.grownBy (b.setCell ⟨B, o, none⟩ v) r :=
  ⟨h.os, h.tape, h.output, by simpa [World.setCell] using h.size, fun k hk hr => by rw [Below.heap_setCell _ _ _ _ (by simp; omega)]; exact h.block k hk hr⟩
theorem gb_unalloc {a b : World} {o : Obj} {r : Option Nat} (h : (a.alloc o).grownBy b r) : a.grownBy b r := gb_trans (World.grownBy_alloc a o r) h

theorem take_yes (w : World) (rb : Nat) (t : ByteArray) (s : Sv.St) (b : Int) (h : RdAt w rb t s) (hp : s.p ≤ t.size) (hs : t.size ≤ 600) (hb : Sv.look t s = b) :
    Calls Try.prog 70 #[.pointer (some ⟨rb, 0, none⟩), .int .i64 b] w fun e w' => e = .returned (.bool true) ∧ RdEnd w w' rb t ⟨s.p + 1, s.f⟩ := by
  have e : Sv.take t b s = (true, ⟨s.p + 1, s.f⟩) := by simp [Sv.take, hb]
  have := take_any w rb t s b h hp hs
  rw [e] at this; exact this
theorem take_no (w : World) (rb : Nat) (t : ByteArray) (s : Sv.St) (b : Int) (h : RdAt w rb t s) (hp : s.p ≤ t.size) (hs : t.size ≤ 600) (hb : Sv.look t s ≠ b) :
    Calls Try.prog 70 #[.pointer (some ⟨rb, 0, none⟩), .int .i64 b] w fun e w' => e = .returned (.bool false) ∧ RdEnd w w' rb t s := by
  have e : Sv.take t b s = (false, s) := by simp [Sv.take, hb]
  have := take_any w rb t s b h hp hs
  rw [e] at this; exact this

set_option maxHeartbeats 400000 in
theorem value_any (w : World) (rb : Nat) (t : ByteArray) (s : Sv.St) (h : RdAt w rb t s) (hp : s.p ≤ t.size) (hs : t.size ≤ 600) :
    Calls Try.prog 128 #[.pointer (some ⟨rb, 0, none⟩)] w fun e w' => e = .returned (.agg #[.int .i64 (Sv.value t s).1.1, .int .i64 (Sv.value t s).1.2]) ∧ RdEnd w w' rb t (Sv.value t s).2 := by
  have hrb := h.lt
  have hne : w.heap.size ≠ rb := by omega
  go_enter Try.func128, Try.ntmps128
  go_wp2_with fail
  refine (word_any _ rb t s (h.alloc _) hp hs).mono ?_
  rintro e w1 ⟨rfl, hr1, hg1⟩
  have hp1 := (Sv_word_p t s hp).1
  go_wp2_with fail
  refine (word_any _ rb t _ hr1 hp1 hs).mono ?_
  rintro e w2 ⟨rfl, hr2, hg2⟩
  have hb : Blk w2 w.heap.size 127 #[.int .i64 0, .int .i64 0] := ((Blk.new w _ _).keep hg1 (by simpa using hne)).keep hg2 (by simpa using hne)
  have b0 := hb.cell 0
  have b1 := hb.cell 1
  have bf := hb.fz
  simp at b0 b1
  go_wp2_with fail
  exact bodyPost_ret (v := .agg #[.int .i64 (Sv.value t s).1.1, .int .i64 (Sv.value t s).1.2]) (by simp [results, Try.results128, go_sem, b0, b1, Sv.value]) rfl
    ⟨rfl, (hr2.other hne _ _).other hne _ _, gb_own (gb_own (gb_trans (gb_unalloc hg1) hg2) (Nat.le_refl _) _ _) (Nat.le_refl _) _ _⟩

set_option maxHeartbeats 400000 in
theorem index_any (w : World) (rb : Nat) (t : ByteArray) (s : Sv.St) (h : RdAt w rb t s) (hp : s.p ≤ t.size) (hs : t.size ≤ 600) :
    Calls Try.prog 127 #[.pointer (some ⟨rb, 0, none⟩)] w fun e w' => e = .returned (.int .i64 (Sv.index t s).1) ∧ RdEnd w w' rb t (Sv.index t s).2 := by
  have c1 := h.c1
  have c2 := h.c2
  have f1 := h.fz 1
  have f2 := h.fz 2
  have hge := look_ge t s
  have hlt := look_lt t s
  have hA : (48 ≤ Sv.look t s ∧ Sv.look t s ≤ 51) → Hid (Sv.index t s = (Sv.look t s - 48, ⟨s.p + 1, s.f⟩)) := by
    intro hc; unfold Hid Sv.index; rw [if_pos hc]
  have hC : (Sv.look t s < 48 ∨ 51 < Sv.look t s) → Hid (Sv.index t s = (0, ⟨s.p, true⟩)) := by
    intro hc; unfold Hid Sv.index; rw [if_neg (by omega)]
  have hlk := look_any (w := w) rb t s h hs
  generalize Sv.look t s = c at *
  have hcase : (48 ≤ c ∧ c ≤ 51) ∨ c < 48 ∨ 51 < c := by omega
  rcases hcase with hc | hc | hc
  · replace hA := hA hc
    obtain ⟨h1, h2⟩ := hc
    clear hC
    go_enter Try.func127, Try.ntmps127
    go_wp2_with fail
    refine hlk.mono ?_
    clear hlk
    rintro e w1 ⟨rfl, n, rfl⟩
    go_wp2_with fail
    go_ret
    rw [hA.out]
    exact ⟨rfl, (h.drewN n).set1 _ _ (by simp), gb_set (gb_drewN (gb_refl _ _) _) _ _⟩
  all_goals
    replace hC := hC (by omega)
    clear hA
    go_enter Try.func127, Try.ntmps127
    go_wp2_with fail
    refine hlk.mono ?_
    clear hlk
    rintro e w1 ⟨rfl, n, rfl⟩
    go_wp2_with fail
    go_ret
    rw [hC.out]
    exact ⟨rfl, (h.drewN n).set2 true, gb_set (gb_drewN (gb_refl _ _) _) _ _⟩

set_option maxHeartbeats 400000 in
theorem relation_any (w : World) (rb : Nat) (t : ByteArray) (s : Sv.St) (h : RdAt w rb t s) (hp : s.p ≤ t.size) (hs : t.size ≤ 600) :
    Calls Try.prog 126 #[.pointer (some ⟨rb, 0, none⟩)] w fun e w' => e = .returned (.int .i64 (Sv.relation t s).1) ∧ RdEnd w w' rb t (Sv.relation t s).2 := by
  by_cases q0 : Sv.look t s = 61
  · have hv : Hid (Sv.relation t s = (0, ⟨s.p + 1, s.f⟩)) := by unfold Hid Sv.relation; rw [if_pos q0]
    have Q0 : Hid (Sv.look t s = 61) := q0
    clear q0
    go_enter Try.func126, Try.ntmps126
    go_wp2_with fail
    refine (take_yes _ rb t s 61 h hp hs Q0.out).mono ?_
    rintro e w1 ⟨rfl, hr1, hg1⟩
    go_wp2_with fail
    go_ret
    rw [hv.out]
    exact ⟨rfl, hr1, hg1⟩
  by_cases q1 : Sv.look t s = 60
  · have hv : Hid (Sv.relation t s = (1, ⟨s.p + 1, s.f⟩)) := by unfold Hid Sv.relation; rw [if_neg q0, if_pos q1]
    have Q0 : Hid (Sv.look t s ≠ 61) := q0
    have Q1 : Hid (Sv.look t s = 60) := q1
    clear q0 q1
    go_enter Try.func126, Try.ntmps126
    go_wp2_with fail
    refine (take_no _ rb t s 61 h hp hs Q0.out).mono ?_
    rintro e w1 ⟨rfl, hr1, hg1⟩
    go_wp2_with fail
    refine (take_yes _ rb t s 60 hr1 hp hs Q1.out).mono ?_
    rintro e w2 ⟨rfl, hr2, hg2⟩
    go_wp2_with fail
    go_ret
    rw [hv.out]
    exact ⟨rfl, hr2, (gb_trans hg1 hg2)⟩
  by_cases q2 : Sv.look t s = 62
  · have hv : Hid (Sv.relation t s = (2, ⟨s.p + 1, s.f⟩)) := by unfold Hid Sv.relation; rw [if_neg q0, if_neg q1, if_pos q2]
    have Q0 : Hid (Sv.look t s ≠ 61) := q0
    have Q1 : Hid (Sv.look t s ≠ 60) := q1
    have Q2 : Hid (Sv.look t s = 62) := q2
    clear q0 q1 q2
    go_enter Try.func126, Try.ntmps126
    go_wp2_with fail
    refine (take_no _ rb t s 61 h hp hs Q0.out).mono ?_
    rintro e w1 ⟨rfl, hr1, hg1⟩
    go_wp2_with fail
    refine (take_no _ rb t s 60 hr1 hp hs Q1.out).mono ?_
    rintro e w2 ⟨rfl, hr2, hg2⟩
    go_wp2_with fail
    refine (take_yes _ rb t s 62 hr2 hp hs Q2.out).mono ?_
    rintro e w3 ⟨rfl, hr3, hg3⟩
    go_wp2_with fail
    go_ret
    rw [hv.out]
    exact ⟨rfl, hr3, (gb_trans (gb_trans hg1 hg2) hg3)⟩
  have hv : Hid (Sv.relation t s = (0, ⟨s.p, true⟩)) := by unfold Hid Sv.relation; rw [if_neg q0, if_neg q1, if_neg q2]
  have Q0 : Hid (Sv.look t s ≠ 61) := q0
  have Q1 : Hid (Sv.look t s ≠ 60) := q1
  have Q2 : Hid (Sv.look t s ≠ 62) := q2
  clear q0 q1 q2
  go_enter Try.func126, Try.ntmps126
  go_wp2_with fail
  refine (take_no _ rb t s 61 h hp hs Q0.out).mono ?_
  rintro e w1 ⟨rfl, hr1, hg1⟩
  go_wp2_with fail
  refine (take_no _ rb t s 60 hr1 hp hs Q1.out).mono ?_
  rintro e w2 ⟨rfl, hr2, hg2⟩
  go_wp2_with fail
  refine (take_no _ rb t s 62 hr2 hp hs Q2.out).mono ?_
  rintro e w3 ⟨rfl, hr3, hg3⟩
  have f2 := hr3.fz 2
  have c2 := hr3.c2
  go_wp2_with fail
  go_ret
  rw [hv.out]
  exact ⟨rfl, hr3.set2 true, gb_set (gb_trans (gb_trans hg1 hg2) hg3) _ _⟩

set_option maxHeartbeats 400000 in
theorem short_any (w : World) (rb : Nat) (t : ByteArray) (s : Sv.St) (k : Int) (h : RdAt w rb t s) (hp : s.p ≤ t.size) (hs : t.size ≤ 600) :
    Calls Try.prog 121 #[.pointer (some ⟨rb, 0, none⟩), .int .i64 k] w fun e w' => e = .returned (.agg (tmCells (Sv.short t k s).1)) ∧ RdEnd w w' rb t (Sv.short t k s).2 := by
  have hrb := h.lt
  have hne : w.heap.size ≠ rb := by omega
  go_enter Try.func121, Try.ntmps121
  go_wp2_with fail
  refine (relation_any _ rb t s (h.alloc _) hp hs).mono ?_
  rintro e w1 ⟨rfl, hr1, hg1⟩
  have hp1 := (Sv_relation_p t s hp).1
  go_wp2_with fail
  refine (word_any _ rb t _ hr1 hp1 hs).mono ?_
  rintro e w2 ⟨rfl, hr2, hg2⟩
  have hb := ((Blk.new w _ _).keep hg1 (by simpa using hne)).keep hg2 (by simpa using hne)
  have b0 := hb.cell 0
  have b1 := hb.cell 1
  have b2 := hb.cell 2
  have b3 := hb.cell 3
  have b4 := hb.cell 4
  have b5 := hb.cell 5
  have b6 := hb.cell 6
  have bf := hb.fz
  simp at b0 b1 b2 b3 b4 b5 b6
  go_wp2_with fail
  exact bodyPost_ret (v := .agg (tmCells (Sv.short t k s).1)) (by simp [results, Try.results121, go_sem, b0, b1, b2, b3, b4, b5, b6, Sv.short, tmCells]) rfl
    ⟨rfl, (((((((hr2.other hne _ _).other hne _ _).other hne _ _).other hne _ _).other hne _ _).other hne _ _).other hne _ _),
      gb_own (gb_own (gb_own (gb_own (gb_own (gb_own (gb_own (gb_trans (gb_unalloc hg1) hg2) (Nat.le_refl _) _ _) (Nat.le_refl _) _ _) (Nat.le_refl _) _ _) (Nat.le_refl _) _ _) (Nat.le_refl _) _ _) (Nat.le_refl _) _ _) (Nat.le_refl _) _ _⟩
end Go.Proofs.Ytldongbimhngfaa
namespace Go.Proofs.Ytldongbimhngfaa
open Go.RowKit
set_option linter.unusedVariables false
set_option linter.unusedSimpArgs false

set_option maxHeartbeats 400000 in
theorem parts_any (w : World) (k : Int) : Calls Try.prog 109 #[.int .i64 k] w fun e w' => e = .returned (.int .i64 (Sv.parts k)) ∧ w' = w := by
  have hcase : k = 1 ∨ k = 2 ∨ k = 3 ∨ (k ≠ 1 ∧ k ≠ 2 ∧ k ≠ 3) := by omega
  rcases hcase with rfl | rfl | rfl | ⟨h1, h2, h3⟩
  · go_enter Try.func109, Try.ntmps109
    go_wp2
    go_ret
    exact ⟨rfl, rfl⟩
  · go_enter Try.func109, Try.ntmps109
    go_wp2
    go_ret
    exact ⟨rfl, rfl⟩
  · go_enter Try.func109, Try.ntmps109
    go_wp2
    go_ret
    exact ⟨rfl, rfl⟩
  · have e1 : (k == 1) = false := by simp [h1]
    have e2 : (k == 2) = false := by simp [h2]
    have e3 : (k == 3) = false := by simp [h3]
    have hv : Hid (Sv.parts k = 0) := by unfold Hid Sv.parts; rw [if_neg h1, if_neg (by omega)]
    clear h1 h2 h3
    go_enter Try.func109, Try.ntmps109
    go_wp2
    go_ret
    rw [hv.out]
    exact ⟨rfl, rfl⟩

set_option maxRecDepth 100000 in
set_option maxHeartbeats 1000000 in
theorem argument_any (w : World) (rb : Nat) (t : ByteArray) (s : Sv.St) (h : RdAt w rb t s) (hp : s.p ≤ t.size) (hs : t.size ≤ 600) :
    Calls Try.prog 122 #[.pointer (some ⟨rb, 0, none⟩)] w fun e w' => e = .returned (.agg (tmCells (Sv.argument t s).1)) ∧ RdEnd w w' rb t (Sv.argument t s).2 := by
  have hrb := h.lt
  have hne : w.heap.size ≠ rb := by omega
  by_cases q : Sv.look t (Sv.index t s).2 = 38
  · have Q : Hid (Sv.look t (Sv.index t s).2 = 38) := q
    go_enter Try.func122, Try.ntmps122
    go_wp2_with fail
    refine (index_any _ rb t s (h.alloc _) hp hs).mono ?_
    rintro e w1 ⟨rfl, hr1, hg1⟩
    clear q
    have hp1 := Sv_index_p t s hp
    have i0 := hp1.2.1
    have i3 := hp1.2.2
    have hz1 : w.heap.size < w1.heap.size := by have := hg1.size; simp at this; omega
    have hne1 : w1.heap.size ≠ rb := by omega
    have B0 := (Blk.new w _ _).keep hg1 (by simpa using hne)
    go_wp2_with fail
    refine (take_yes _ rb t _ 38 (hr1.alloc _) hp1.1 hs Q.out).mono ?_
    rintro e w2 ⟨rfl, hr2, hg2⟩
    have hp2 : (Sv.index t s).2.p + 1 ≤ t.size := look_pos t _ (by rw [Q.out]; omega)
    replace B0 := (B0.alloc _).keep hg2 (by simpa using hne)
    have B1 := (Blk.new w1 _ _).keep hg2 (by simpa using hne1)
    go_wp2_with fail
    refine (value_any _ rb t _ hr2 hp2 hs).mono ?_
    rintro e w3 ⟨rfl, hr3, hg3⟩
    replace B0 := B0.keep hg3 (by simpa using hne)
    replace B1 := B1.keep hg3 (by simpa using hne1)
    have x2 := B1.cell 2
    have x3 := B1.cell 3
    have xf := B1.fz
    simp at x2 x3
    have hp3 := Sv_value_p t ⟨(Sv.index t s).2.p + 1, (Sv.index t s).2.f⟩ hp2
    go_wp2_with fail
    refine (need_any _ rb t _ 61 ((hr3.other hne1 _ _).other hne1 _ _) hp3 hs).mono ?_
    rintro e w4 ⟨rfl, hr4, hg4⟩
    clear x2 x3 xf
    replace B1 := ((B1.set 2 (.int .i64 (Sv.value t ⟨(Sv.index t s).2.p + 1, (Sv.index t s).2.f⟩).1.1)).set 3 (.int .i64 (Sv.value t ⟨(Sv.index t s).2.p + 1, (Sv.index t s).2.f⟩).1.2)).keep hg4 (by simpa using hne1)
    replace B0 := ((B0.other (by omega : w1.heap.size ≠ w.heap.size) _ _).other (by omega : w1.heap.size ≠ w.heap.size) _ _).keep hg4 (by simpa using hne)
    have hp4 := Sv_need_p t 61 _ (by omega) hp3
    go_wp2_with fail
    refine (value_any _ rb t _ hr4 hp4 hs).mono ?_
    rintro e w5 ⟨rfl, hr5, hg5⟩
    replace B0 := B0.keep hg5 (by simpa using hne)
    replace B1 := B1.keep hg5 (by simpa using hne1)
    simp at B1
    have x0 := B1.cell 0
    have x1 := B1.cell 1
    have x2 := B1.cell 2
    have x3 := B1.cell 3
    have x4 := B1.cell 4
    have x5 := B1.cell 5
    have x6 := B1.cell 6
    have xf := B1.fz
    have y0 := B0.cell 0
    have y1 := B0.cell 1
    have y2 := B0.cell 2
    have y3 := B0.cell 3
    have y4 := B0.cell 4
    have y5 := B0.cell 5
    have y6 := B0.cell 6
    have yf := B0.fz
    simp at x0 x1 x2 x3 x4 x5 x6 y0 y1 y2 y3 y4 y5 y6
    have hb01 : w.heap.size ≠ w1.heap.size := by omega
    have hb10 : w1.heap.size ≠ w.heap.size := by omega
    have hv : Hid (Sv.argument t s = (⟨4, 4 + 4 * (Sv.index t s).1, (Sv.value t ⟨(Sv.index t s).2.p + 1, (Sv.index t s).2.f⟩).1.1, (Sv.value t ⟨(Sv.index t s).2.p + 1, (Sv.index t s).2.f⟩).1.2, 0,
      (Sv.value t (Sv.need t 61 (Sv.value t ⟨(Sv.index t s).2.p + 1, (Sv.index t s).2.f⟩).2)).1.1, (Sv.value t (Sv.need t 61 (Sv.value t ⟨(Sv.index t s).2.p + 1, (Sv.index t s).2.f⟩).2)).1.2⟩,
      (Sv.value t (Sv.need t 61 (Sv.value t ⟨(Sv.index t s).2.p + 1, (Sv.index t s).2.f⟩).2)).2)) := by unfold Hid Sv.argument; rw [if_pos Q.out]
    go_wp2_with fail
    refine bodyPost_ret (v := .agg (tmCells (Sv.argument t s).1)) (by rw [hv.out]; simp [results, Try.results122, go_sem, y0, y1, y2, y3, y4, y5, y6, tmCells, hb01, hb10]) rfl ?_
    rw [hv.out]
    exact ⟨rfl, (((((((((hr5).other hne1 _ _).other hne1 _ _).other hne _ _).other hne _ _).other hne _ _).other hne _ _).other hne _ _).other hne _ _).other hne _ _, gb_own (gb_own (gb_own (gb_own (gb_own (gb_own (gb_own (gb_own (gb_own (gb_trans (gb_trans (gb_own (gb_own (gb_trans (gb_trans (gb_alloc (gb_unalloc hg1) _) hg2) hg3) (by omega) _ _) (by omega) _ _) hg4) hg5) (by omega) _ _) (by omega) _ _) (by omega) _ _) (by omega) _ _) (by omega) _ _) (by omega) _ _) (by omega) _ _) (by omega) _ _) (by omega) _ _⟩
  · have Q : Hid (Sv.look t (Sv.index t s).2 ≠ 38) := q
    go_enter Try.func122, Try.ntmps122
    go_wp2_with fail
    refine (index_any _ rb t s (h.alloc _) hp hs).mono ?_
    rintro e w1 ⟨rfl, hr1, hg1⟩
    clear q
    have hp1 := Sv_index_p t s hp
    have i0 := hp1.2.1
    have i3 := hp1.2.2
    have hz1 : w.heap.size < w1.heap.size := by have := hg1.size; simp at this; omega
    have hne1 : w1.heap.size ≠ rb := by omega
    have B0 := (Blk.new w _ _).keep hg1 (by simpa using hne)
    go_wp2_with fail
    refine (take_no _ rb t _ 38 (hr1.alloc _) hp1.1 hs Q.out).mono ?_
    rintro e w2 ⟨rfl, hr2, hg2⟩
    replace B0 := (B0.alloc _).keep hg2 (by simpa using hne)
    have B1 := (Blk.new w1 _ _).keep hg2 (by simpa using hne1)
    go_wp2_with fail
    refine (relation_any _ rb t _ hr2 hp1.1 hs).mono ?_
    rintro e w3 ⟨rfl, hr3, hg3⟩
    replace B0 := B0.keep hg3 (by simpa using hne)
    replace B1 := B1.keep hg3 (by simpa using hne1)
    have x4 := B1.cell 4
    have xf := B1.fz
    simp at x4
    have hp3 := (Sv_relation_p t (Sv.index t s).2 hp1.1).1
    go_wp2_with fail
    refine (value_any _ rb t _ (hr3.other hne1 _ _) hp3 hs).mono ?_
    rintro e w5 ⟨rfl, hr5, hg5⟩
    clear x4 xf
    replace B1 := (B1.set 4 (.int .i64 (Sv.relation t (Sv.index t s).2).1)).keep hg5 (by simpa using hne1)
    replace B0 := (B0.other (by omega : w1.heap.size ≠ w.heap.size) _ _).keep hg5 (by simpa using hne)
    simp at B1
    have x0 := B1.cell 0
    have x1 := B1.cell 1
    have x2 := B1.cell 2
    have x3 := B1.cell 3
    have x4 := B1.cell 4
    have x5 := B1.cell 5
    have x6 := B1.cell 6
    have xf := B1.fz
    have y0 := B0.cell 0
    have y1 := B0.cell 1
    have y2 := B0.cell 2
    have y3 := B0.cell 3
    have y4 := B0.cell 4
    have y5 := B0.cell 5
    have y6 := B0.cell 6
    have yf := B0.fz
    simp at x0 x1 x2 x3 x4 x5 x6 y0 y1 y2 y3 y4 y5 y6
    have hb01 : w.heap.size ≠ w1.heap.size := by omega
    have hb10 : w1.heap.size ≠ w.heap.size := by omega
    have hv : Hid (Sv.argument t s = (⟨4, 4 + 4 * (Sv.index t s).1, 65535, 65535, (Sv.relation t (Sv.index t s).2).1, (Sv.value t (Sv.relation t (Sv.index t s).2).2).1.1, (Sv.value t (Sv.relation t (Sv.index t s).2).2).1.2⟩,
      (Sv.value t (Sv.relation t (Sv.index t s).2).2).2)) := by unfold Hid Sv.argument; rw [if_neg Q.out]
    go_wp2_with fail
    refine bodyPost_ret (v := .agg (tmCells (Sv.argument t s).1)) (by rw [hv.out]; simp [results, Try.results122, go_sem, y0, y1, y2, y3, y4, y5, y6, tmCells, hb01, hb10]) rfl ?_
    rw [hv.out]
    exact ⟨rfl, (((((((((hr5).other hne1 _ _).other hne1 _ _).other hne _ _).other hne _ _).other hne _ _).other hne _ _).other hne _ _).other hne _ _).other hne _ _, gb_own (gb_own (gb_own (gb_own (gb_own (gb_own (gb_own (gb_own (gb_own (gb_trans (gb_own (gb_trans (gb_trans (gb_alloc (gb_unalloc hg1) _) hg2) hg3) (by omega) _ _) hg5) (by omega) _ _) (by omega) _ _) (by omega) _ _) (by omega) _ _) (by omega) _ _) (by omega) _ _) (by omega) _ _) (by omega) _ _) (by omega) _ _⟩
end Go.Proofs.Ytldongbimhngfaa
namespace Go.Proofs.Ytldongbimhngfaa
open Go.RowKit
set_option linter.unusedVariables false
set_option linter.unusedSimpArgs false

set_option maxHeartbeats 1000000 in
theorem term_0 (w : World) (rb : Nat) (t : ByteArray) (s : Sv.St) (h : RdAt w rb t s) (hp : s.p ≤ t.size) (hs : t.size ≤ 600) (Q0 : Hid (Sv.look t s = 84)) :
    Calls Try.prog 108 #[.pointer (some ⟨rb, 0, none⟩)] w fun e w' => e = .returned (.agg (tmCells (Sv.term t s).1)) ∧ RdEnd w w' rb t (Sv.term t s).2 := by
  have hrb := h.lt
  have hne : w.heap.size ≠ rb := by omega
  have hv : Hid (Sv.term t s = (Sv.tm0 0, ⟨s.p + 1, s.f⟩)) := by unfold Hid Sv.term; rw [if_pos Q0.out]
  have hp1 : s.p + 1 ≤ t.size := look_pos t s (by rw [Q0.out]; omega)
  go_enter Try.func108, Try.ntmps108
  go_wp2_with fail
  refine (take_yes _ rb t s 84 (h.alloc _) hp hs Q0.out).mono ?_
  rintro e w1 ⟨rfl, hr1, hg1⟩
  have B0 := ((Blk.new w _ _).keep hg1 (by simpa using hne))
  have y0 := B0.cell 0
  have y1 := B0.cell 1
  have y2 := B0.cell 2
  have y3 := B0.cell 3
  have y4 := B0.cell 4
  have y5 := B0.cell 5
  have y6 := B0.cell 6
  have yf := B0.fz
  simp at y0 y1 y2 y3 y4 y5 y6
  go_wp2_with fail
  refine bodyPost_ret (v := .agg (tmCells (Sv.term t s).1)) (by rw [hv.out]; simp [results, Try.results108, go_sem, y0, y1, y2, y3, y4, y5, y6, tmCells, Sv.tm0]) rfl ?_
  rw [hv.out]
  exact ⟨rfl, (((((((hr1).other hne _ _).other hne _ _).other hne _ _).other hne _ _).other hne _ _).other hne _ _).other hne _ _, gb_own (gb_own (gb_own (gb_own (gb_own (gb_own (gb_own (gb_unalloc hg1) (by omega) _ _) (by omega) _ _) (by omega) _ _) (by omega) _ _) (by omega) _ _) (by omega) _ _) (by omega) _ _⟩

set_option maxHeartbeats 1000000 in
theorem term_1 (w : World) (rb : Nat) (t : ByteArray) (s : Sv.St) (h : RdAt w rb t s) (hp : s.p ≤ t.size) (hs : t.size ≤ 600) (Q0 : Hid (Sv.look t s ≠ 84)) (Q1 : Hid (Sv.look t s = 33)) :
    Calls Try.prog 108 #[.pointer (some ⟨rb, 0, none⟩)] w fun e w' => e = .returned (.agg (tmCells (Sv.term t s).1)) ∧ RdEnd w w' rb t (Sv.term t s).2 := by
  have hrb := h.lt
  have hne : w.heap.size ≠ rb := by omega
  have hv : Hid (Sv.term t s = (Sv.tm0 1, ⟨s.p + 1, s.f⟩)) := by unfold Hid Sv.term; rw [if_neg Q0.out, if_pos Q1.out]
  have hp1 : s.p + 1 ≤ t.size := look_pos t s (by rw [Q1.out]; omega)
  go_enter Try.func108, Try.ntmps108
  go_wp2_with fail
  refine (take_no _ rb t s 84 (h.alloc _) hp hs Q0.out).mono ?_
  rintro e w1 ⟨rfl, hr1, hg1⟩
  go_wp2_with fail
  refine (take_yes _ rb t s 33 hr1 hp hs Q1.out).mono ?_
  rintro e w2 ⟨rfl, hr2, hg2⟩
  have B0 := (((Blk.new w _ _).keep hg1 (by simpa using hne)).keep hg2 (by simpa using hne))
  have y0 := B0.cell 0
  have y1 := B0.cell 1
  have y2 := B0.cell 2
  have y3 := B0.cell 3
  have y4 := B0.cell 4
  have y5 := B0.cell 5
  have y6 := B0.cell 6
  have yf := B0.fz
  simp at y0 y1 y2 y3 y4 y5 y6
  go_wp2_with fail
  refine bodyPost_ret (v := .agg (tmCells (Sv.term t s).1)) (by rw [hv.out]; simp [results, Try.results108, go_sem, y0, y1, y2, y3, y4, y5, y6, tmCells, Sv.tm0]) rfl ?_
  rw [hv.out]
  exact ⟨rfl, (((((((hr2).other hne _ _).other hne _ _).other hne _ _).other hne _ _).other hne _ _).other hne _ _).other hne _ _, gb_own (gb_own (gb_own (gb_own (gb_own (gb_own (gb_own (gb_trans (gb_unalloc hg1) hg2) (by omega) _ _) (by omega) _ _) (by omega) _ _) (by omega) _ _) (by omega) _ _) (by omega) _ _) (by omega) _ _⟩

set_option maxHeartbeats 1000000 in
theorem term_2 (w : World) (rb : Nat) (t : ByteArray) (s : Sv.St) (h : RdAt w rb t s) (hp : s.p ≤ t.size) (hs : t.size ≤ 600) (Q0 : Hid (Sv.look t s ≠ 84)) (Q1 : Hid (Sv.look t s ≠ 33)) (Q2 : Hid (Sv.look t s = 38)) :
    Calls Try.prog 108 #[.pointer (some ⟨rb, 0, none⟩)] w fun e w' => e = .returned (.agg (tmCells (Sv.term t s).1)) ∧ RdEnd w w' rb t (Sv.term t s).2 := by
  have hrb := h.lt
  have hne : w.heap.size ≠ rb := by omega
  have hv : Hid (Sv.term t s = (Sv.tm0 2, ⟨s.p + 1, s.f⟩)) := by unfold Hid Sv.term; rw [if_neg Q0.out, if_neg Q1.out, if_pos Q2.out]
  have hp1 : s.p + 1 ≤ t.size := look_pos t s (by rw [Q2.out]; omega)
  go_enter Try.func108, Try.ntmps108
  go_wp2_with fail
  refine (take_no _ rb t s 84 (h.alloc _) hp hs Q0.out).mono ?_
  rintro e w1 ⟨rfl, hr1, hg1⟩
  go_wp2_with fail
  refine (take_no _ rb t s 33 hr1 hp hs Q1.out).mono ?_
  rintro e w2 ⟨rfl, hr2, hg2⟩
  go_wp2_with fail
  refine (take_yes _ rb t s 38 hr2 hp hs Q2.out).mono ?_
  rintro e w3 ⟨rfl, hr3, hg3⟩
  have B0 := ((((Blk.new w _ _).keep hg1 (by simpa using hne)).keep hg2 (by simpa using hne)).keep hg3 (by simpa using hne))
  have y0 := B0.cell 0
  have y1 := B0.cell 1
  have y2 := B0.cell 2
  have y3 := B0.cell 3
  have y4 := B0.cell 4
  have y5 := B0.cell 5
  have y6 := B0.cell 6
  have yf := B0.fz
  simp at y0 y1 y2 y3 y4 y5 y6
  go_wp2_with fail
  refine bodyPost_ret (v := .agg (tmCells (Sv.term t s).1)) (by rw [hv.out]; simp [results, Try.results108, go_sem, y0, y1, y2, y3, y4, y5, y6, tmCells, Sv.tm0]) rfl ?_
  rw [hv.out]
  exact ⟨rfl, (((((((hr3).other hne _ _).other hne _ _).other hne _ _).other hne _ _).other hne _ _).other hne _ _).other hne _ _, gb_own (gb_own (gb_own (gb_own (gb_own (gb_own (gb_own (gb_trans (gb_trans (gb_unalloc hg1) hg2) hg3) (by omega) _ _) (by omega) _ _) (by omega) _ _) (by omega) _ _) (by omega) _ _) (by omega) _ _) (by omega) _ _⟩

set_option maxHeartbeats 1000000 in
theorem term_3 (w : World) (rb : Nat) (t : ByteArray) (s : Sv.St) (h : RdAt w rb t s) (hp : s.p ≤ t.size) (hs : t.size ≤ 600) (Q0 : Hid (Sv.look t s ≠ 84)) (Q1 : Hid (Sv.look t s ≠ 33)) (Q2 : Hid (Sv.look t s ≠ 38)) (Q3 : Hid (Sv.look t s = 124)) :
    Calls Try.prog 108 #[.pointer (some ⟨rb, 0, none⟩)] w fun e w' => e = .returned (.agg (tmCells (Sv.term t s).1)) ∧ RdEnd w w' rb t (Sv.term t s).2 := by
  have hrb := h.lt
  have hne : w.heap.size ≠ rb := by omega
  have hv : Hid (Sv.term t s = (Sv.tm0 3, ⟨s.p + 1, s.f⟩)) := by unfold Hid Sv.term; rw [if_neg Q0.out, if_neg Q1.out, if_neg Q2.out, if_pos Q3.out]
  have hp1 : s.p + 1 ≤ t.size := look_pos t s (by rw [Q3.out]; omega)
  go_enter Try.func108, Try.ntmps108
  go_wp2_with fail
  refine (take_no _ rb t s 84 (h.alloc _) hp hs Q0.out).mono ?_
  rintro e w1 ⟨rfl, hr1, hg1⟩
  go_wp2_with fail
  refine (take_no _ rb t s 33 hr1 hp hs Q1.out).mono ?_
  rintro e w2 ⟨rfl, hr2, hg2⟩
  go_wp2_with fail
  refine (take_no _ rb t s 38 hr2 hp hs Q2.out).mono ?_
  rintro e w3 ⟨rfl, hr3, hg3⟩
  go_wp2_with fail
  refine (take_yes _ rb t s 124 hr3 hp hs Q3.out).mono ?_
  rintro e w4 ⟨rfl, hr4, hg4⟩
  have B0 := (((((Blk.new w _ _).keep hg1 (by simpa using hne)).keep hg2 (by simpa using hne)).keep hg3 (by simpa using hne)).keep hg4 (by simpa using hne))
  have y0 := B0.cell 0
  have y1 := B0.cell 1
  have y2 := B0.cell 2
  have y3 := B0.cell 3
  have y4 := B0.cell 4
  have y5 := B0.cell 5
  have y6 := B0.cell 6
  have yf := B0.fz
  simp at y0 y1 y2 y3 y4 y5 y6
  go_wp2_with fail
  refine bodyPost_ret (v := .agg (tmCells (Sv.term t s).1)) (by rw [hv.out]; simp [results, Try.results108, go_sem, y0, y1, y2, y3, y4, y5, y6, tmCells, Sv.tm0]) rfl ?_
  rw [hv.out]
  exact ⟨rfl, (((((((hr4).other hne _ _).other hne _ _).other hne _ _).other hne _ _).other hne _ _).other hne _ _).other hne _ _, gb_own (gb_own (gb_own (gb_own (gb_own (gb_own (gb_own (gb_trans (gb_trans (gb_trans (gb_unalloc hg1) hg2) hg3) hg4) (by omega) _ _) (by omega) _ _) (by omega) _ _) (by omega) _ _) (by omega) _ _) (by omega) _ _) (by omega) _ _⟩

set_option maxHeartbeats 1000000 in
theorem term_4 (w : World) (rb : Nat) (t : ByteArray) (s : Sv.St) (h : RdAt w rb t s) (hp : s.p ≤ t.size) (hs : t.size ≤ 600) (Q0 : Hid (Sv.look t s ≠ 84)) (Q1 : Hid (Sv.look t s ≠ 33)) (Q2 : Hid (Sv.look t s ≠ 38)) (Q3 : Hid (Sv.look t s ≠ 124)) (Q4 : Hid (Sv.look t s = 110)) :
    Calls Try.prog 108 #[.pointer (some ⟨rb, 0, none⟩)] w fun e w' => e = .returned (.agg (tmCells (Sv.term t s).1)) ∧ RdEnd w w' rb t (Sv.term t s).2 := by
  have hrb := h.lt
  have hne : w.heap.size ≠ rb := by omega
  have hv : Hid (Sv.term t s = Sv.short t 0 ⟨s.p + 1, s.f⟩) := by unfold Hid Sv.term; rw [if_neg Q0.out, if_neg Q1.out, if_neg Q2.out, if_neg Q3.out, if_pos Q4.out]
  have hp1 : s.p + 1 ≤ t.size := look_pos t s (by rw [Q4.out]; omega)
  go_enter Try.func108, Try.ntmps108
  go_wp2_with fail
  refine (take_no _ rb t s 84 (h.alloc _) hp hs Q0.out).mono ?_
  rintro e w1 ⟨rfl, hr1, hg1⟩
  go_wp2_with fail
  refine (take_no _ rb t s 33 hr1 hp hs Q1.out).mono ?_
  rintro e w2 ⟨rfl, hr2, hg2⟩
  go_wp2_with fail
  refine (take_no _ rb t s 38 hr2 hp hs Q2.out).mono ?_
  rintro e w3 ⟨rfl, hr3, hg3⟩
  go_wp2_with fail
  refine (take_no _ rb t s 124 hr3 hp hs Q3.out).mono ?_
  rintro e w4 ⟨rfl, hr4, hg4⟩
  go_wp2_with fail
  refine (take_yes _ rb t s 110 hr4 hp hs Q4.out).mono ?_
  rintro e w5 ⟨rfl, hr5, hg5⟩
  go_wp2_with fail
  refine (short_any _ rb t _ 0 hr5 hp1 hs).mono ?_
  rintro e w9 ⟨rfl, hr9, hg9⟩
  generalize hX : Sv.short t 0 ⟨s.p + 1, s.f⟩ = X at *
  have HX : Hid (Sv.short t 0 ⟨s.p + 1, s.f⟩ = X) := hX
  clear hX
  obtain ⟨⟨k0, k1, k2, k3, k4, k5, k6⟩, s9⟩ := X
  simp only [tmCells]
  have B0 := (((((((Blk.new w _ _).keep hg1 (by simpa using hne)).keep hg2 (by simpa using hne)).keep hg3 (by simpa using hne)).keep hg4 (by simpa using hne)).keep hg5 (by simpa using hne)).keep hg9 (by simpa using hne))
  have y0 := B0.cell 0
  have y1 := B0.cell 1
  have y2 := B0.cell 2
  have y3 := B0.cell 3
  have y4 := B0.cell 4
  have y5 := B0.cell 5
  have y6 := B0.cell 6
  have yf := B0.fz
  simp at y0 y1 y2 y3 y4 y5 y6
  go_wp2_with fail
  refine bodyPost_ret (v := .agg (tmCells (Sv.term t s).1)) (by rw [hv.out]; simp [results, Try.results108, go_sem, y0, y1, y2, y3, y4, y5, y6, tmCells, Sv.tm0]) rfl ?_
  rw [hv.out]
  exact ⟨rfl, (((((((hr9).other hne _ _).other hne _ _).other hne _ _).other hne _ _).other hne _ _).other hne _ _).other hne _ _, gb_own (gb_own (gb_own (gb_own (gb_own (gb_own (gb_own (gb_trans (gb_trans (gb_trans (gb_trans (gb_trans (gb_unalloc hg1) hg2) hg3) hg4) hg5) hg9) (by omega) _ _) (by omega) _ _) (by omega) _ _) (by omega) _ _) (by omega) _ _) (by omega) _ _) (by omega) _ _⟩

set_option maxHeartbeats 1000000 in
theorem term_5 (w : World) (rb : Nat) (t : ByteArray) (s : Sv.St) (h : RdAt w rb t s) (hp : s.p ≤ t.size) (hs : t.size ≤ 600) (Q0 : Hid (Sv.look t s ≠ 84)) (Q1 : Hid (Sv.look t s ≠ 33)) (Q2 : Hid (Sv.look t s ≠ 38)) (Q3 : Hid (Sv.look t s ≠ 124)) (Q4 : Hid (Sv.look t s ≠ 110)) (Q5 : Hid (Sv.look t s = 104)) :
    Calls Try.prog 108 #[.pointer (some ⟨rb, 0, none⟩)] w fun e w' => e = .returned (.agg (tmCells (Sv.term t s).1)) ∧ RdEnd w w' rb t (Sv.term t s).2 := by
  have hrb := h.lt
  have hne : w.heap.size ≠ rb := by omega
  have hv : Hid (Sv.term t s = Sv.short t 2 ⟨s.p + 1, s.f⟩) := by unfold Hid Sv.term; rw [if_neg Q0.out, if_neg Q1.out, if_neg Q2.out, if_neg Q3.out, if_neg Q4.out, if_pos Q5.out]
  have hp1 : s.p + 1 ≤ t.size := look_pos t s (by rw [Q5.out]; omega)
  go_enter Try.func108, Try.ntmps108
  go_wp2_with fail
  refine (take_no _ rb t s 84 (h.alloc _) hp hs Q0.out).mono ?_
  rintro e w1 ⟨rfl, hr1, hg1⟩
  go_wp2_with fail
  refine (take_no _ rb t s 33 hr1 hp hs Q1.out).mono ?_
  rintro e w2 ⟨rfl, hr2, hg2⟩
  go_wp2_with fail
  refine (take_no _ rb t s 38 hr2 hp hs Q2.out).mono ?_
  rintro e w3 ⟨rfl, hr3, hg3⟩
  go_wp2_with fail
  refine (take_no _ rb t s 124 hr3 hp hs Q3.out).mono ?_
  rintro e w4 ⟨rfl, hr4, hg4⟩
  go_wp2_with fail
  refine (take_no _ rb t s 110 hr4 hp hs Q4.out).mono ?_
  rintro e w5 ⟨rfl, hr5, hg5⟩
  go_wp2_with fail
  refine (take_yes _ rb t s 104 hr5 hp hs Q5.out).mono ?_
  rintro e w6 ⟨rfl, hr6, hg6⟩
  go_wp2_with fail
  refine (short_any _ rb t _ 2 hr6 hp1 hs).mono ?_
  rintro e w9 ⟨rfl, hr9, hg9⟩
  generalize hX : Sv.short t 2 ⟨s.p + 1, s.f⟩ = X at *
  have HX : Hid (Sv.short t 2 ⟨s.p + 1, s.f⟩ = X) := hX
  clear hX
  obtain ⟨⟨k0, k1, k2, k3, k4, k5, k6⟩, s9⟩ := X
  simp only [tmCells]
  have B0 := ((((((((Blk.new w _ _).keep hg1 (by simpa using hne)).keep hg2 (by simpa using hne)).keep hg3 (by simpa using hne)).keep hg4 (by simpa using hne)).keep hg5 (by simpa using hne)).keep hg6 (by simpa using hne)).keep hg9 (by simpa using hne))
  have y0 := B0.cell 0
  have y1 := B0.cell 1
  have y2 := B0.cell 2
  have y3 := B0.cell 3
  have y4 := B0.cell 4
  have y5 := B0.cell 5
  have y6 := B0.cell 6
  have yf := B0.fz
  simp at y0 y1 y2 y3 y4 y5 y6
  go_wp2_with fail
  refine bodyPost_ret (v := .agg (tmCells (Sv.term t s).1)) (by rw [hv.out]; simp [results, Try.results108, go_sem, y0, y1, y2, y3, y4, y5, y6, tmCells, Sv.tm0]) rfl ?_
  rw [hv.out]
  exact ⟨rfl, (((((((hr9).other hne _ _).other hne _ _).other hne _ _).other hne _ _).other hne _ _).other hne _ _).other hne _ _, gb_own (gb_own (gb_own (gb_own (gb_own (gb_own (gb_own (gb_trans (gb_trans (gb_trans (gb_trans (gb_trans (gb_trans (gb_unalloc hg1) hg2) hg3) hg4) hg5) hg6) hg9) (by omega) _ _) (by omega) _ _) (by omega) _ _) (by omega) _ _) (by omega) _ _) (by omega) _ _) (by omega) _ _⟩

set_option maxHeartbeats 1000000 in
theorem term_6 (w : World) (rb : Nat) (t : ByteArray) (s : Sv.St) (h : RdAt w rb t s) (hp : s.p ≤ t.size) (hs : t.size ≤ 600) (Q0 : Hid (Sv.look t s ≠ 84)) (Q1 : Hid (Sv.look t s ≠ 33)) (Q2 : Hid (Sv.look t s ≠ 38)) (Q3 : Hid (Sv.look t s ≠ 124)) (Q4 : Hid (Sv.look t s ≠ 110)) (Q5 : Hid (Sv.look t s ≠ 104)) (Q6 : Hid (Sv.look t s = 97)) :
    Calls Try.prog 108 #[.pointer (some ⟨rb, 0, none⟩)] w fun e w' => e = .returned (.agg (tmCells (Sv.term t s).1)) ∧ RdEnd w w' rb t (Sv.term t s).2 := by
  have hrb := h.lt
  have hne : w.heap.size ≠ rb := by omega
  have hv : Hid (Sv.term t s = Sv.argument t ⟨s.p + 1, s.f⟩) := by unfold Hid Sv.term; rw [if_neg Q0.out, if_neg Q1.out, if_neg Q2.out, if_neg Q3.out, if_neg Q4.out, if_neg Q5.out, if_pos Q6.out]
  have hp1 : s.p + 1 ≤ t.size := look_pos t s (by rw [Q6.out]; omega)
  go_enter Try.func108, Try.ntmps108
  go_wp2_with fail
  refine (take_no _ rb t s 84 (h.alloc _) hp hs Q0.out).mono ?_
  rintro e w1 ⟨rfl, hr1, hg1⟩
  go_wp2_with fail
  refine (take_no _ rb t s 33 hr1 hp hs Q1.out).mono ?_
  rintro e w2 ⟨rfl, hr2, hg2⟩
  go_wp2_with fail
  refine (take_no _ rb t s 38 hr2 hp hs Q2.out).mono ?_
  rintro e w3 ⟨rfl, hr3, hg3⟩
  go_wp2_with fail
  refine (take_no _ rb t s 124 hr3 hp hs Q3.out).mono ?_
  rintro e w4 ⟨rfl, hr4, hg4⟩
  go_wp2_with fail
  refine (take_no _ rb t s 110 hr4 hp hs Q4.out).mono ?_
  rintro e w5 ⟨rfl, hr5, hg5⟩
  go_wp2_with fail
  refine (take_no _ rb t s 104 hr5 hp hs Q5.out).mono ?_
  rintro e w6 ⟨rfl, hr6, hg6⟩
  go_wp2_with fail
  refine (take_yes _ rb t s 97 hr6 hp hs Q6.out).mono ?_
  rintro e w7 ⟨rfl, hr7, hg7⟩
  go_wp2_with fail
  refine (argument_any _ rb t _ hr7 hp1 hs).mono ?_
  rintro e w9 ⟨rfl, hr9, hg9⟩
  generalize hX : Sv.argument t ⟨s.p + 1, s.f⟩ = X at *
  have HX : Hid (Sv.argument t ⟨s.p + 1, s.f⟩ = X) := hX
  clear hX
  obtain ⟨⟨k0, k1, k2, k3, k4, k5, k6⟩, s9⟩ := X
  simp only [tmCells]
  have B0 := (((((((((Blk.new w _ _).keep hg1 (by simpa using hne)).keep hg2 (by simpa using hne)).keep hg3 (by simpa using hne)).keep hg4 (by simpa using hne)).keep hg5 (by simpa using hne)).keep hg6 (by simpa using hne)).keep hg7 (by simpa using hne)).keep hg9 (by simpa using hne))
  have y0 := B0.cell 0
  have y1 := B0.cell 1
  have y2 := B0.cell 2
  have y3 := B0.cell 3
  have y4 := B0.cell 4
  have y5 := B0.cell 5
  have y6 := B0.cell 6
  have yf := B0.fz
  simp at y0 y1 y2 y3 y4 y5 y6
  go_wp2_with fail
  refine bodyPost_ret (v := .agg (tmCells (Sv.term t s).1)) (by rw [hv.out]; simp [results, Try.results108, go_sem, y0, y1, y2, y3, y4, y5, y6, tmCells, Sv.tm0]) rfl ?_
  rw [hv.out]
  exact ⟨rfl, (((((((hr9).other hne _ _).other hne _ _).other hne _ _).other hne _ _).other hne _ _).other hne _ _).other hne _ _, gb_own (gb_own (gb_own (gb_own (gb_own (gb_own (gb_own (gb_trans (gb_trans (gb_trans (gb_trans (gb_trans (gb_trans (gb_trans (gb_unalloc hg1) hg2) hg3) hg4) hg5) hg6) hg7) hg9) (by omega) _ _) (by omega) _ _) (by omega) _ _) (by omega) _ _) (by omega) _ _) (by omega) _ _) (by omega) _ _⟩

set_option maxHeartbeats 1000000 in
theorem term_7 (w : World) (rb : Nat) (t : ByteArray) (s : Sv.St) (h : RdAt w rb t s) (hp : s.p ≤ t.size) (hs : t.size ≤ 600) (Q0 : Hid (Sv.look t s ≠ 84)) (Q1 : Hid (Sv.look t s ≠ 33)) (Q2 : Hid (Sv.look t s ≠ 38)) (Q3 : Hid (Sv.look t s ≠ 124)) (Q4 : Hid (Sv.look t s ≠ 110)) (Q5 : Hid (Sv.look t s ≠ 104)) (Q6 : Hid (Sv.look t s ≠ 97)) :
    Calls Try.prog 108 #[.pointer (some ⟨rb, 0, none⟩)] w fun e w' => e = .returned (.agg (tmCells (Sv.term t s).1)) ∧ RdEnd w w' rb t (Sv.term t s).2 := by
  have hrb := h.lt
  have hne : w.heap.size ≠ rb := by omega
  have hv : Hid (Sv.term t s = (Sv.tm0 0, ⟨s.p, true⟩)) := by unfold Hid Sv.term; rw [if_neg Q0.out, if_neg Q1.out, if_neg Q2.out, if_neg Q3.out, if_neg Q4.out, if_neg Q5.out, if_neg Q6.out]
  go_enter Try.func108, Try.ntmps108
  go_wp2_with fail
  refine (take_no _ rb t s 84 (h.alloc _) hp hs Q0.out).mono ?_
  rintro e w1 ⟨rfl, hr1, hg1⟩
  go_wp2_with fail
  refine (take_no _ rb t s 33 hr1 hp hs Q1.out).mono ?_
  rintro e w2 ⟨rfl, hr2, hg2⟩
  go_wp2_with fail
  refine (take_no _ rb t s 38 hr2 hp hs Q2.out).mono ?_
  rintro e w3 ⟨rfl, hr3, hg3⟩
  go_wp2_with fail
  refine (take_no _ rb t s 124 hr3 hp hs Q3.out).mono ?_
  rintro e w4 ⟨rfl, hr4, hg4⟩
  go_wp2_with fail
  refine (take_no _ rb t s 110 hr4 hp hs Q4.out).mono ?_
  rintro e w5 ⟨rfl, hr5, hg5⟩
  go_wp2_with fail
  refine (take_no _ rb t s 104 hr5 hp hs Q5.out).mono ?_
  rintro e w6 ⟨rfl, hr6, hg6⟩
  go_wp2_with fail
  refine (take_no _ rb t s 97 hr6 hp hs Q6.out).mono ?_
  rintro e w7 ⟨rfl, hr7, hg7⟩
  have B0 := ((((((((Blk.new w _ _).keep hg1 (by simpa using hne)).keep hg2 (by simpa using hne)).keep hg3 (by simpa using hne)).keep hg4 (by simpa using hne)).keep hg5 (by simpa using hne)).keep hg6 (by simpa using hne)).keep hg7 (by simpa using hne))
  have y0 := B0.cell 0
  have y1 := B0.cell 1
  have y2 := B0.cell 2
  have y3 := B0.cell 3
  have y4 := B0.cell 4
  have y5 := B0.cell 5
  have y6 := B0.cell 6
  have yf := B0.fz
  simp at y0 y1 y2 y3 y4 y5 y6
  have c2 := hr7.c2
  have f2 := hr7.fz 2
  have hne2 : rb ≠ w.heap.size := by omega
  go_wp2_with fail
  refine bodyPost_ret (v := .agg (tmCells (Sv.term t s).1)) (by rw [hv.out]; simp [results, Try.results108, go_sem, y0, y1, y2, y3, y4, y5, y6, tmCells, Sv.tm0, hne2, hne]) rfl ?_
  rw [hv.out]
  exact ⟨rfl, (((((((hr7.set2 true).other hne _ _).other hne _ _).other hne _ _).other hne _ _).other hne _ _).other hne _ _).other hne _ _, gb_own (gb_own (gb_own (gb_own (gb_own (gb_own (gb_own (gb_set (gb_trans (gb_trans (gb_trans (gb_trans (gb_trans (gb_trans (gb_unalloc hg1) hg2) hg3) hg4) hg5) hg6) hg7) _ _) (by omega) _ _) (by omega) _ _) (by omega) _ _) (by omega) _ _) (by omega) _ _) (by omega) _ _) (by omega) _ _⟩

theorem term_any (w : World) (rb : Nat) (t : ByteArray) (s : Sv.St) (h : RdAt w rb t s) (hp : s.p ≤ t.size) (hs : t.size ≤ 600) :
    Calls Try.prog 108 #[.pointer (some ⟨rb, 0, none⟩)] w fun e w' => e = .returned (.agg (tmCells (Sv.term t s).1)) ∧ RdEnd w w' rb t (Sv.term t s).2 := by
  by_cases q0 : Sv.look t s = 84
  · exact term_0 w rb t s h hp hs q0
  by_cases q1 : Sv.look t s = 33
  · exact term_1 w rb t s h hp hs q0 q1
  by_cases q2 : Sv.look t s = 38
  · exact term_2 w rb t s h hp hs q0 q1 q2
  by_cases q3 : Sv.look t s = 124
  · exact term_3 w rb t s h hp hs q0 q1 q2 q3
  by_cases q4 : Sv.look t s = 110
  · exact term_4 w rb t s h hp hs q0 q1 q2 q3 q4
  by_cases q5 : Sv.look t s = 104
  · exact term_5 w rb t s h hp hs q0 q1 q2 q3 q4 q5
  by_cases q6 : Sv.look t s = 97
  · exact term_6 w rb t s h hp hs q0 q1 q2 q3 q4 q5 q6
  exact term_7 w rb t s h hp hs q0 q1 q2 q3 q4 q5 q6
end Go.Proofs.Ytldongbimhngfaa
