import Derived.Test.YtpamlgdopmjooaaGreatGLw
import Derived.ProofKit
import Derived.OpenShut
import Derived.ShutString
import Derived.ChangeOld
import Derived.Deep.Slices
namespace Go.Proofs.YtpamlgdopmjooaaGreat
open Go.RowKit Go.ChangeShapes Go.WideShapes Go.ChangeAt
set_option linter.unusedVariables false
set_option linter.unusedSimpArgs false

theorem cellsOp : Tryz.prog.cellsOf 31 = 6 := by kernel_rfl
theorem cells3 : Tryz.prog.cellsOf 3 = 1 := by kernel_rfl
theorem cells9 : Tryz.prog.cellsOf 9 = 1 := by kernel_rfl
theorem cellsL : Tryz.prog.cellsOf 29 = 1 := by kernel_rfl

theorem six {α : Type} (l : List α) (h : l.length = 6) : ∃ a b c d e f, l = [a, b, c, d, e, f] := by
  match l, h with
  | [a, b, c, d, e, f], _ => exact ⟨a, b, c, d, e, f, rfl⟩

theorem sliceForm {H : Type} {enc : TypeId × Value → H} {w : World} {base : Nat} {spare : Nat → Bool} {held : Bool} {t e : TypeId} {fuel : Nat} {cs : List Value} {y : DataW H × List MemPlace} (ht : Tryz.prog.underlying t = some (.slice e)) (hf : DataW.trod enc Tryz.prog w base spare held fuel t cs = some y) : ∃ a l c, cs = [.slice a l c] := by
  rcases DataW.trod_slice ht hf with ⟨h, _⟩ | ⟨a, len, cap, _, _, _, _, h, _⟩
  · exact ⟨_, _, _, h⟩
  · exact ⟨_, _, _, h⟩

theorem op_open {H : Type} {enc : TypeId × Value → H} {w : World} {base : Nat} {spare : Nat → Bool} {held : Bool} {n : Nat} {cs : List Value} {y : DataW H × List MemPlace}
    (h : DataW.trod enc Tryz.prog w base spare held n 31 cs = some y) : ∃ o : Opr, cs = (opCells o).toList ∧ OprOk o := by
  obtain ⟨xs, m, _, _, hl, hlen, hf⟩ := DataW.trod_struct Tryz.underlying31 h
  rw [cellsOp] at hl
  obtain ⟨c0, c1, c2, c3, c4, c5, rfl⟩ := six cs hl
  have hx : xs.length = 6 := hlen
  obtain ⟨x0, x1, x2, x3, x4, x5, rfl⟩ := six xs hx
  have f0 : DataW.trod enc Tryz.prog w base spare held m 3 (([c0, c1, c2, c3, c4, c5].drop 0).take (Tryz.prog.cellsOf 3)) = some x0 := hf 0 _ rfl
  rw [cells3] at f0
  have f1 : DataW.trod enc Tryz.prog w base spare held m 3 (([c0, c1, c2, c3, c4, c5].drop 1).take (Tryz.prog.cellsOf 3)) = some x1 := hf 1 _ rfl
  rw [cells3] at f1
  have f2 : DataW.trod enc Tryz.prog w base spare held m 9 (([c0, c1, c2, c3, c4, c5].drop 2).take (Tryz.prog.cellsOf 9)) = some x2 := hf 2 _ rfl
  rw [cells9] at f2
  have f3 : DataW.trod enc Tryz.prog w base spare held m 9 (([c0, c1, c2, c3, c4, c5].drop 3).take (Tryz.prog.cellsOf 9)) = some x3 := hf 3 _ rfl
  rw [cells9] at f3
  have f4 : DataW.trod enc Tryz.prog w base spare held m 9 (([c0, c1, c2, c3, c4, c5].drop 4).take (Tryz.prog.cellsOf 9)) = some x4 := hf 4 _ rfl
  rw [cells9] at f4
  have f5 : DataW.trod enc Tryz.prog w base spare held m 29 (([c0, c1, c2, c3, c4, c5].drop 5).take (Tryz.prog.cellsOf 29)) = some x5 := hf 5 _ rfl
  rw [cellsL] at f5
  simp only [List.drop, List.take] at f0 f1 f2 f3 f4 f5
  obtain ⟨k, e0, _, _⟩ := DataW.trod_int Tryz.underlying3 f0
  obtain ⟨nn, e1, _, hnn⟩ := DataW.trod_int Tryz.underlying3 f1
  obtain ⟨s, e2, _, hs⟩ := DataW.trod_string Tryz.underlying9 f2
  obtain ⟨p, e3, _, hp⟩ := DataW.trod_string Tryz.underlying9 f3
  obtain ⟨r, e4, _, hr⟩ := DataW.trod_string Tryz.underlying9 f4
  obtain ⟨la, ll, lc, e5⟩ := sliceForm Tryz.underlying29 f5
  simp at e0 e1 e2 e3 e4 e5
  subst e0 e1 e2 e3 e4 e5
  exact ⟨⟨k, nn, s, p, r, la, ll, lc⟩, rfl, hs, ⟨hp, (bounds_i64 hnn).1, (bounds_i64 hnn).2⟩, hr⟩

set_option maxRecDepth 100000 in
theorem script_open {H : Type} {enc : TypeId × Value → H} {w : World} {base : Nat} {spare : Nat → Bool} {held : Bool} {fuel : Nat} {a0 : Option Addr} {len0 cap0 : Nat} {x : DataW H × List MemPlace}
    (h : DataW.trod enc Tryz.prog w base spare held fuel 22 [.slice a0 len0 cap0] = some x) : ∃ ops : List Opr, ops.length = len0 ∧ OpsAt w a0 ops ∧ ops.length ≤ maxLen := by
  rcases Deep.open_slice Tryz.underlying22 h with ⟨hcs, _⟩ | ⟨a, len, cap, m, n, D, Pl, hcs, hb, hl, hm, hmm, _, hall⟩
  · simp at hcs
    exact ⟨[], hcs.2.1.symm, fun i hi => by simp at hi, by simp⟩
  · simp at hcs
    obtain ⟨rfl, rfl, rfl⟩ := hcs
    have hle : len0 ≤ m := by rw [hmm]; split <;> omega
    have hnone : 0 < len0 → a.spot = none := by
      intro h0
      obtain ⟨cs', h1, h2⟩ := hall 0 (by omega)
      obtain ⟨o, rfl, hok⟩ := op_open h2
      rw [cellsOp] at h1
      obtain ⟨_, hlen, hcell⟩ := World.cells?_some h1
      have c0 : w.cell? ((a.add (0 * 6)).add 0) = some (.int .i64 o.kind) := by
        have := hcell 0 (by omega); rw [this]; rfl
      have := World.cell?_spot c0
      simpa [Addr.add] using this
    have hex : ∀ i, i < len0 → ∃ o : Opr, OprOk o ∧ ∃ b off, a = ⟨b, off, none⟩ ∧ b < w.heap.size ∧ ∀ j, j < 6 → w.cell? ⟨b, off + i * 6 + j, none⟩ = (opCells o)[j]? := by
      intro i hi
      obtain ⟨cs', h1, h2⟩ := hall i (by omega)
      obtain ⟨o, rfl, hok⟩ := op_open h2
      rw [cellsOp] at h1
      have hblk := World.cells?_block h1 (by omega)
      obtain ⟨_, hlen, hcell⟩ := World.cells?_some h1
      refine ⟨o, hok, ?_⟩
      obtain ⟨b, off, spot⟩ := a
      have hspot : spot = none := hnone (by omega)
      subst hspot
      refine ⟨b, off, rfl, ?_, fun j hj => ?_⟩
      · have e : (Addr.add ⟨b, off, none⟩ (i * 6)).block = b := by unfold Addr.add; split <;> rfl
        rw [e] at hblk; exact hblk
      · have := hcell j hj
        have e : ((Addr.add ⟨b, off, none⟩ (i * 6)).add j) = ⟨b, off + i * 6 + j, none⟩ := by
          rw [Deep.add_add]; unfold Addr.add
          split
          · next h0 =>
            have h1 : i * 6 = 0 := by omega
            have h2 : j = 0 := by omega
            rw [h1, h2]; rfl
          · simp [Nat.add_assoc]
        rw [e] at this
        rw [this]; simp
    obtain ⟨f, hf⟩ := @Deep.choose_lt Opr ⟨⟨0, 0, .empty, .empty, .empty, none, 0, 0⟩⟩ len0 _ hex
    refine ⟨(List.range len0).map f, by simp, ?_, by simp; omega⟩
    intro i hi
    have hi' : i < len0 := by simpa using hi
    have e : ((List.range len0).map f)[i] = f i := by simp
    rw [e]
    obtain ⟨h1, b, off, h2, h3, h4⟩ := hf i hi'
    exact ⟨h1, b, off, by rw [h2], h3, h4⟩

theorem own : ownKnob Tryz.prog.godebug = none := by kernel_rfl
theorem laidOut : laidOutB Tryz.prog = true := by kernel_rfl
end Go.Proofs.YtpamlgdopmjooaaGreat
