import Derived.Test.YtibgffbcbhphdaaRows
import Derived.Test.YtibgffbcbhphdaaSpec
import Derived.WalkKit
import Derived.WalkLawsBesides
import Derived.Below
import Derived.BigQuiet
import Derived.Deep.QuietTactic
namespace Go.Proofs.Ytibgffbcbhphdaa
open Go.RowKit
set_option linter.unusedVariables false
set_option linter.unusedSimpArgs false

/-- the reader's block -/
def RdAt (w : World) (rb : Nat) (t : ByteArray) (s : Sv.St) : Prop :=
  w.heap[rb]? = some (.cells #[.string t, .int .i64 s.p, .bool s.f] 86 (0, 0))

theorem RdAt.c0 {w : World} {rb : Nat} {t : ByteArray} {s : Sv.St} (h : RdAt w rb t s) : w.cell? ⟨rb, 0, none⟩ = some (.string t) := by
  unfold RdAt at h; simp [World.cell?, h]
theorem RdAt.c1 {w : World} {rb : Nat} {t : ByteArray} {s : Sv.St} (h : RdAt w rb t s) : w.cell? ⟨rb, 1, none⟩ = some (.int .i64 s.p) := by
  unfold RdAt at h; simp [World.cell?, h]
theorem RdAt.c2 {w : World} {rb : Nat} {t : ByteArray} {s : Sv.St} (h : RdAt w rb t s) : w.cell? ⟨rb, 2, none⟩ = some (.bool s.f) := by
  unfold RdAt at h; simp [World.cell?, h]
theorem RdAt.fz {w : World} {rb : Nat} {t : ByteArray} {s : Sv.St} (h : RdAt w rb t s) (o : Nat) : w.frozen? ⟨rb, o, none⟩ = false := by
  unfold RdAt at h; simp [World.frozen?, h]
theorem RdAt.drewN {w : World} {rb : Nat} {t : ByteArray} {s : Sv.St} (h : RdAt w rb t s) (n : Nat) : RdAt (w.drewN n) rb t s := h
theorem RdAt.set1 {w : World} {rb : Nat} {t : ByteArray} {s : Sv.St} (h : RdAt w rb t s) (i : Int) (q : Nat) (hq : i = q) : RdAt (w.setCell ⟨rb, 1, none⟩ (.int .i64 i)) rb t ⟨q, s.f⟩ := by
  unfold RdAt at *; subst hq; simp [World.setCell, Array.getElem?_modify, h]
theorem RdAt.set2 {w : World} {rb : Nat} {t : ByteArray} {s : Sv.St} (h : RdAt w rb t s) (b : Bool) : RdAt (w.setCell ⟨rb, 2, none⟩ (.bool b)) rb t ⟨s.p, b⟩ := by
  unfold RdAt at *; simp [World.setCell, Array.getElem?_modify, h]
theorem RdAt.lt {w : World} {rb : Nat} {t : ByteArray} {s : Sv.St} (h : RdAt w rb t s) : rb < w.heap.size := by
  unfold RdAt at h; exact (Array.getElem?_eq_some_iff.1 h).1

theorem gb_refl (w : World) (r : Option Nat) : w.grownBy w r := ⟨rfl, rfl, rfl, Nat.le_refl _, fun _ _ _ => rfl⟩
theorem gb_trans {a b c : World} {r : Option Nat} (h : a.grownBy b r) (k : b.grownBy c r) : a.grownBy c r :=
  ⟨k.os.trans h.os, k.tape.trans h.tape, k.output.trans h.output, Nat.le_trans h.size k.size, fun i hi hr => (k.block i (Nat.lt_of_lt_of_le hi h.size) hr).trans (h.block i hi hr)⟩
theorem gb_drewN {a b : World} {r : Option Nat} (h : a.grownBy b r) (n : Nat) : a.grownBy (b.drewN n) r := ⟨h.os, h.tape, h.output, h.size, h.block⟩
theorem gb_drew {a b : World} {r : Option Nat} (h : a.grownBy b r) : a.grownBy b.drew r := ⟨h.os, h.tape, h.output, h.size, h.block⟩
theorem gb_set {a b : World} {rb : Nat} (h : a.grownBy b (some rb)) (o : Nat) (v : Value) : a.grownBy (b.setCell ⟨rb, o, none⟩ v) (some rb) :=
  gb_trans h ⟨rfl, rfl, rfl, by simp [World.setCell], fun k _ hr => Below.heap_setCell _ _ _ _ (by intro e; apply hr; simp at e; rw [e])⟩
theorem gb_alloc {a b : World} {r : Option Nat} (h : a.grownBy b r) (o : Obj) : a.grownBy (b.alloc o) r := gb_trans h (World.grownBy_alloc b o r)

/-- the end of a reader's call -/
def RdEnd (w w' : World) (rb : Nat) (t : ByteArray) (s' : Sv.St) : Prop := RdAt w' rb t s' ∧ w.grownBy w' (some rb)

theorem wrap_byte (b : UInt8) : wrap64 (b.toNat : Int) = (b.toNat : Int) := by
  have := b.toNat_lt
  exact IntWalk.wrap64_in _ ⟨by omega, by omega⟩

set_option maxHeartbeats 400000 in
theorem look_any (w : World) (rb : Nat) (t : ByteArray) (s : Sv.St) (h : RdAt w rb t s) (hs : t.size ≤ 600) :
    Calls Try.prog 76 #[.pointer (some ⟨rb, 0, none⟩)] w fun e w' => e = .returned (.int .i64 (Sv.look t s)) ∧ ∃ n, w' = w.drewN n := by
  have c0 := h.c0
  have c1 := h.c1
  have c2 := h.c2
  obtain ⟨p, f⟩ := s
  simp only at c0 c1 c2
  clear h
  cases f
  · by_cases hlt : p < t.size
    · have hd : decide ((t.size : Int) ≤ (p : Int)) = false := by simp; omega
      have hl : Hid (Sv.look t ⟨p, false⟩ = (t[p].toNat : Int)) := by simp [Hid, Sv.look, Sv.byteAt, hlt]
      go_enter Try.func76, Try.ntmps76
      go_wp2
      go_quiet (fail)
      go_wp2
      go_quiet (fail)
      go_wp2
      go_ret
      exact ⟨by rw [hl.out]; simp [wrap_byte], _, World.drewN_drewN _ _ _⟩
    · have hd : decide ((t.size : Int) ≤ (p : Int)) = true := by simp; omega
      have hl : Hid (Sv.look t ⟨p, false⟩ = -1) := by simp [Hid, Sv.look, Sv.byteAt, hlt]
      go_enter Try.func76, Try.ntmps76
      go_wp2
      go_quiet (fail)
      go_wp2
      go_ret
      exact ⟨by rw [hl.out]; simp, _, rfl⟩
  · have hl : Hid (Sv.look t ⟨p, true⟩ = -1) := by simp [Hid, Sv.look]
    go_enter Try.func76, Try.ntmps76
    go_wp2
    go_quiet (fail)
    go_wp2
    go_ret
    exact ⟨by rw [hl.out]; simp, _, rfl⟩

theorem look_ge (t : ByteArray) (s : Sv.St) : -1 ≤ Sv.look t s := by unfold Sv.look; split; omega; exact Sv.byteAt_ge _ _
theorem look_lt (t : ByteArray) (s : Sv.St) : Sv.look t s < 256 := by unfold Sv.look; split; omega; exact Sv.byteAt_lt _ _

set_option maxHeartbeats 400000 in
theorem take_any (w : World) (rb : Nat) (t : ByteArray) (s : Sv.St) (b : Int) (h : RdAt w rb t s) (hp : s.p ≤ t.size) (hs : t.size ≤ 600) :
    Calls Try.prog 61 #[.pointer (some ⟨rb, 0, none⟩), .int .i64 b] w fun e w' => e = .returned (.bool (Sv.take t b s).1) ∧ RdEnd w w' rb t (Sv.take t b s).2 := by
  have c1 := h.c1
  have f1 := h.fz 1
  by_cases hb : Sv.look t s = b
  · have hne : (Sv.look t s != b) = false := by simp [hb]
    have hl : Hid (Sv.take t b s = (true, ⟨s.p + 1, s.f⟩)) := by simp [Hid, Sv.take, hb]
    clear hb
    go_enter Try.func61, Try.ntmps61
    go_wp2_with fail
    refine (look_any _ rb t s h hs).mono ?_
    rintro e w1 ⟨rfl, n, rfl⟩
    go_wp2_with fail
    go_ret
    rw [hl.out]
    exact ⟨rfl, (h.drewN n).set1 _ _ (by simp), gb_set (gb_drewN (gb_refl _ _) _) _ _⟩
  · have hne : (Sv.look t s != b) = true := by simp [hb]
    have hl : Hid (Sv.take t b s = (false, s)) := by simp [Hid, Sv.take, hb]
    clear hb
    go_enter Try.func61, Try.ntmps61
    go_wp2_with fail
    refine (look_any _ rb t s h hs).mono ?_
    rintro e w1 ⟨rfl, n, rfl⟩
    go_wp2_with fail
    go_ret
    rw [hl.out]
    exact ⟨rfl, h.drewN n, gb_drewN (gb_refl _ _) _⟩

set_option maxHeartbeats 400000 in
theorem need_any (w : World) (rb : Nat) (t : ByteArray) (s : Sv.St) (b : Int) (h : RdAt w rb t s) (hp : s.p ≤ t.size) (hs : t.size ≤ 600) :
    Calls Try.prog 63 #[.pointer (some ⟨rb, 0, none⟩), .int .i64 b] w fun e w' => e = .returned (.tuple #[]) ∧ RdEnd w w' rb t (Sv.need t b s) := by
  by_cases hb : Sv.look t s = b
  · have hl : Hid (Sv.take t b s = (true, ⟨s.p + 1, s.f⟩)) := by simp [Hid, Sv.take, hb]
    have hn : Hid (Sv.need t b s = ⟨s.p + 1, s.f⟩) := by simp [Hid, Sv.need, hb]
    clear hb
    go_enter Try.func63, Try.ntmps63
    go_wp2_with fail
    refine (take_any _ rb t s b h hp hs).mono ?_
    rintro e w1 ⟨rfl, hr⟩
    rw [hl.out] at hr ⊢
    go_wp2_with fail
    go_end0
    rw [hn.out]
    exact ⟨rfl, hr⟩
  · have hl : Hid (Sv.take t b s = (false, s)) := by simp [Hid, Sv.take, hb]
    have hn : Hid (Sv.need t b s = ⟨s.p, true⟩) := by simp [Hid, Sv.need, hb]
    clear hb
    go_enter Try.func63, Try.ntmps63
    go_wp2_with fail
    refine (take_any _ rb t s b h hp hs).mono ?_
    rintro e w1 ⟨rfl, hr⟩
    rw [hl.out] at hr ⊢
    obtain ⟨hr, hg⟩ := hr
    have f2 := hr.fz 2
    have c2 := hr.c2
    go_wp2_with fail
    go_end0
    rw [hn.out]
    exact ⟨rfl, hr.set2 true, gb_set hg _ _⟩

set_option maxHeartbeats 400000 in
theorem needEnd_any (w : World) (rb : Nat) (t : ByteArray) (s : Sv.St) (h : RdAt w rb t s) (hp : s.p ≤ t.size) (hs : t.size ≤ 600) :
    Calls Try.prog 65 #[.pointer (some ⟨rb, 0, none⟩)] w fun e w' => e = .returned (.tuple #[]) ∧ RdEnd w w' rb t (Sv.needEnd t s) := by
  have c0 := h.c0
  have c1 := h.c1
  have c2 := h.c2
  have f2 := h.fz 2
  by_cases hb : s.p < t.size
  · have hd : decide ((s.p : Int) < (t.size : Int)) = true := by simp; omega
    have hn : Hid (Sv.needEnd t s = ⟨s.p, true⟩) := by simp [Hid, Sv.needEnd, hb]
    go_enter Try.func65, Try.ntmps65
    go_wp2
    go_quiet (fail)
    go_wp2
    go_end0
    rw [hn.out]
    exact ⟨rfl, (h.drewN _).set2 true, gb_set (gb_drewN (gb_refl _ _) _) _ _⟩
  · have hd : decide ((s.p : Int) < (t.size : Int)) = false := by simp; omega
    have hn : Hid (Sv.needEnd t s = s) := by simp [Hid, Sv.needEnd, hb]
    go_enter Try.func65, Try.ntmps65
    go_wp2
    go_quiet (fail)
    go_wp2
    go_end0
    rw [hn.out]
    exact ⟨rfl, h.drewN _, gb_drewN (gb_refl _ _) _⟩

set_option maxHeartbeats 400000 in
theorem digit_any (w : World) (rb : Nat) (t : ByteArray) (s : Sv.St) (h : RdAt w rb t s) (hp : s.p ≤ t.size) (hs : t.size ≤ 600) :
    Calls Try.prog 78 #[.pointer (some ⟨rb, 0, none⟩)] w fun e w' => e = .returned (.int .i64 (Sv.digit t s).1) ∧ RdEnd w w' rb t (Sv.digit t s).2 := by
  have c1 := h.c1
  have c2 := h.c2
  have f1 := h.fz 1
  have f2 := h.fz 2
  have hge := look_ge t s
  have hlt := look_lt t s
  have hA : (48 ≤ Sv.look t s ∧ Sv.look t s ≤ 57) → Hid (Sv.digit t s = (Sv.look t s - 48, ⟨s.p + 1, s.f⟩)) := by
    intro hc; unfold Hid Sv.digit; rw [if_pos hc]
  have hB : (97 ≤ Sv.look t s ∧ Sv.look t s ≤ 102) → Hid (Sv.digit t s = (Sv.look t s - 97 + 10, ⟨s.p + 1, s.f⟩)) := by
    intro hc; unfold Hid Sv.digit; rw [if_neg (by omega), if_pos hc]
  have hC : (Sv.look t s < 48 ∨ (57 < Sv.look t s ∧ Sv.look t s < 97) ∨ 102 < Sv.look t s) → Hid (Sv.digit t s = (0, ⟨s.p, true⟩)) := by
    intro hc; unfold Hid Sv.digit; rw [if_neg (by omega), if_neg (by omega)]
  have hlk := look_any (w := w) rb t s h hs
  generalize Sv.look t s = c at *
  have hcase : (48 ≤ c ∧ c ≤ 57) ∨ (97 ≤ c ∧ c ≤ 102) ∨ c < 48 ∨ (57 < c ∧ c < 97) ∨ 102 < c := by omega
  rcases hcase with hc | hc | hc | hc | hc
  · replace hA := hA hc
    obtain ⟨h1, h2⟩ := hc
    clear hB hC
    go_enter Try.func78, Try.ntmps78
    go_wp2_with fail
    refine hlk.mono ?_
    clear hlk
    rintro e w1 ⟨rfl, n, rfl⟩
    go_wp2_with fail
    go_ret
    rw [hA.out]
    exact ⟨rfl, (h.drewN n).set1 _ _ (by simp), gb_set (gb_drewN (gb_refl _ _) _) _ _⟩
  · replace hB := hB hc
    obtain ⟨h1, h2⟩ := hc
    clear hA hC
    go_enter Try.func78, Try.ntmps78
    go_wp2_with fail
    refine hlk.mono ?_
    clear hlk
    rintro e w1 ⟨rfl, n, rfl⟩
    go_wp2_with fail
    go_ret
    rw [hB.out]
    exact ⟨rfl, (h.drewN n).set1 _ _ (by simp), gb_set (gb_drewN (gb_refl _ _) _) _ _⟩
  all_goals
    replace hC := hC (by omega)
    clear hA hB
    go_enter Try.func78, Try.ntmps78
    go_wp2_with fail
    refine hlk.mono ?_
    clear hlk
    rintro e w1 ⟨rfl, n, rfl⟩
    go_wp2_with fail
    go_ret
    rw [hC.out]
    exact ⟨rfl, (h.drewN n).set2 true, gb_set (gb_drewN (gb_refl _ _) _) _ _⟩

theorem Sv_digit_p (t : ByteArray) (s : Sv.St) (hp : s.p ≤ t.size) : (Sv.digit t s).2.p ≤ t.size ∧ 0 ≤ (Sv.digit t s).1 ∧ (Sv.digit t s).1 ≤ 15 := by
  have hl : 0 ≤ Sv.look t s → s.p < t.size := by
    intro h; unfold Sv.look at h; split at h
    · omega
    · exact Sv.lt_of_byteAt h
  unfold Sv.digit
  split
  · simp only; omega
  · split
    · simp only; omega
    · simp only; omega

theorem Sv_wordTo_p (t : ByteArray) (s : Sv.St) (hp : s.p ≤ t.size) (k : Nat) : (Sv.wordTo t s k).2.p ≤ t.size ∧ 0 ≤ (Sv.wordTo t s k).1 ∧ (Sv.wordTo t s k).1 < 16 ^ k := by
  induction k with
  | zero => exact ⟨hp, by simp [Sv.wordTo], by simp [Sv.wordTo]⟩
  | succ k ih =>
    have := Sv_digit_p t _ ih.1
    simp only [Sv.wordTo]
    refine ⟨this.1, by omega, ?_⟩
    rw [Int.pow_succ]; omega
theorem Sv_word_p (t : ByteArray) (s : Sv.St) (hp : s.p ≤ t.size) : (Sv.word t s).2.p ≤ t.size ∧ 0 ≤ (Sv.word t s).1 ∧ (Sv.word t s).1 < 65536 := by
  have := Sv_wordTo_p t s hp 4
  exact ⟨this.1, this.2.1, by have := this.2.2; unfold Sv.word; omega⟩

set_option maxHeartbeats 400000 in
theorem word_any (w : World) (rb : Nat) (t : ByteArray) (s : Sv.St) (h : RdAt w rb t s) (hp : s.p ≤ t.size) (hs : t.size ≤ 600) :
    Calls Try.prog 64 #[.pointer (some ⟨rb, 0, none⟩)] w fun e w' => e = .returned (.int .i64 (Sv.word t s).1) ∧ RdEnd w w' rb t (Sv.word t s).2 := by
  go_enter Try.func64, Try.ntmps64
  go_wp2_with fail
  go_loopw [3, 4] (fun x i wr => ∃ k : Nat, k ≤ 4 ∧ i = .int .i64 k ∧ x = .int .i64 (Sv.wordTo t s k).1 ∧ RdEnd w wr rb t (Sv.wordTo t s k).2) (fun _ i _ => 4 - (intOf i).toNat)
  case atStart => exact ⟨0, by omega, rfl, rfl, h, gb_refl _ _⟩
  case round =>
    obtain ⟨k, hk, rfl, rfl, hr, hg⟩ := hrel
    have hb := Sv_wordTo_p t s hp k
    have hb1 := hb.1
    have hb2 := hb.2.1
    have hb3 : (Sv.wordTo t s k).1 < 65536 := by
      have h4 : (16:Int) ^ k ≤ 16 ^ 4 := by
        have : k = 0 ∨ k = 1 ∨ k = 2 ∨ k = 3 ∨ k = 4 := by omega
        rcases this with rfl | rfl | rfl | rfl | rfl <;> decide
      have := hb.2.2; omega
    have hdg := digit_any wr rb t _ hr hb1 hs
    have hdb := Sv_digit_p t _ hb1
    have hw1 : Hid ((Sv.wordTo t s (k+1)).1 = 16 * (Sv.wordTo t s k).1 + (Sv.digit t (Sv.wordTo t s k).2).1) := rfl
    have hw2 : Hid ((Sv.wordTo t s (k+1)).2 = (Sv.digit t (Sv.wordTo t s k).2).2) := rfl
    clear hb
    by_cases hlt : k < 4
    · have hlt' : (k : Int) < 4 := by omega
      generalize (Sv.wordTo t s k).2 = s1 at *
      generalize (Sv.wordTo t s k).1 = x1 at *
      go_wp2_with fail
      refine hdg.mono ?_
      clear hdg
      rintro e w1 ⟨rfl, hr1, hg1⟩
      have hd0 := hdb.2.1
      have hd1 := hdb.2.2
      generalize (Sv.digit t s1).1 = d at *
      go_wp2_with fail
      go_roundw
      case rel => exact ⟨k + 1, by omega, by go_num, by rw [hw1.out], by rw [hw2.out]; exact ⟨hr1, gb_trans hg hg1⟩⟩
      case measure => simp [intOf]; omega
    · have hk4 : k = 4 := by omega
      subst hk4
      clear hdg hw1 hw2
      go_wp2_with fail
      go_ret
      exact ⟨rfl, hr, hg⟩
end Go.Proofs.Ytibgffbcbhphdaa
