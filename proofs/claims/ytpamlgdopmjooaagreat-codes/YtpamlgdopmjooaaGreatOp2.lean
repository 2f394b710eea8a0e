/- A script opened, its lists too. -/
import Derived.Test.YtpamlgdopmjooaaGreatOp1
import Derived.Test.YtpamlgdopmjooaaGreatCl7
import Derived.SizedLaws
namespace Go.Proofs.YtpamlgdopmjooaaGreat
open Go.RowKit Go.ChangeShapes Go.WideShapes Go.ChangeAt
set_option linter.unusedVariables false
set_option linter.unusedSimpArgs false

theorem cellsIn : Tryz.prog.cellsOf 35 = 4 := by kernel_rfl
theorem bytesIn : Tryz.prog.bytesOf 35 = 32 := by kernel_rfl
theorem bytesOp : Tryz.prog.bytesOf 31 = 88 := by kernel_rfl
theorem four {α : Type} (l : List α) (h : l.length = 4) : ∃ a b c d, l = [a, b, c, d] := by
  match l, h with
  | [a, b, c, d], _ => exact ⟨a, b, c, d, rfl⟩
theorem in_open {H : Type} {enc : TypeId × Value → H} {w : World} {base : Nat} {spare : Nat → Bool} {held : Bool} {n : Nat} {cs : List Value} {y : DataW H × List MemPlace}
    (h : DataW.trod enc Tryz.prog w base spare held n 35 cs = some y) : ∃ x : Sc.In, cs = (inCells x).toList := by
  obtain ⟨xs, m, _, _, hl, hlen, hf⟩ := DataW.trod_struct Tryz.underlying35 h
  rw [cellsIn] at hl
  obtain ⟨c0, c1, c2, c3, rfl⟩ := four cs hl
  have hx : xs.length = 4 := hlen
  obtain ⟨x0, x1, x2, x3, rfl⟩ := four xs hx
  have f0 : DataW.trod enc Tryz.prog w base spare held m 3 (([c0, c1, c2, c3].drop 0).take (Tryz.prog.cellsOf 3)) = some x0 := hf 0 _ rfl
  have f1 : DataW.trod enc Tryz.prog w base spare held m 3 (([c0, c1, c2, c3].drop 1).take (Tryz.prog.cellsOf 3)) = some x1 := hf 1 _ rfl
  have f2 : DataW.trod enc Tryz.prog w base spare held m 3 (([c0, c1, c2, c3].drop 2).take (Tryz.prog.cellsOf 3)) = some x2 := hf 2 _ rfl
  have f3 : DataW.trod enc Tryz.prog w base spare held m 3 (([c0, c1, c2, c3].drop 3).take (Tryz.prog.cellsOf 3)) = some x3 := hf 3 _ rfl
  rw [cells3] at f0 f1 f2 f3
  simp only [List.drop, List.take] at f0 f1 f2 f3
  obtain ⟨k0, e0, _, _⟩ := DataW.trod_int Tryz.underlying3 f0
  obtain ⟨k1, e1, _, _⟩ := DataW.trod_int Tryz.underlying3 f1
  obtain ⟨k2, e2, _, _⟩ := DataW.trod_int Tryz.underlying3 f2
  obtain ⟨k3, e3, _, _⟩ := DataW.trod_int Tryz.underlying3 f3
  simp at e0 e1 e2 e3
  subst e0 e1 e2 e3
  exact ⟨⟨k0, k1, k2, k3⟩, rfl⟩

theorem weights_in_all {H : Type} {P : Program} {e : TypeId} : ∀ {ds : List (DataW H)} {d : DataW H} {n : Nat}, d ∈ ds → n ∈ DataW.weights P e d → n ∈ DataW.weightsAll P e ds := by
  intro ds
  induction ds with
  | nil => intro d n h; simp at h
  | cons x r ih =>
    intro d n h hn
    simp only [DataW.weightsAll, List.mem_append]
    rcases List.mem_cons.1 h with rfl | h
    · exact Or.inl hn
    · exact Or.inr (ih h hn)

set_option maxRecDepth 100000 in
theorem list_open {H : Type} {enc : TypeId × Value → H} {w : World} {base : Nat} {spare : Nat → Bool} {held : Bool} {fuel : Nat} {a0 : Option Addr} {len0 cap0 : Nat} {x : DataW H × List MemPlace}
    (h : DataW.trod enc Tryz.prog w base spare held fuel 29 [.slice a0 len0 cap0] = some x) :
    ∃ L : List Sc.In, L.length = len0 ∧ InsAt w a0 L ∧ (a0 = none → len0 = 0 ∧ cap0 = 0) ∧ ((DataW.weights Tryz.prog 29 x.1).all (fun k => decide (k ≤ reachBytes)) = true → len0 * 32 ≤ 140737488351232) := by
  rcases Deep.open_slice Tryz.underlying29 h with ⟨hcs, rfl⟩ | ⟨a, len, cap, m, n, D, Pl, hcs, hb, hl, hm, hmm, rfl, hall⟩
  · simp at hcs
    exact ⟨[], hcs.2.1.symm, fun i hi => by simp at hi, fun _ => ⟨hcs.2.1, hcs.2.2⟩, fun _ => by rw [hcs.2.1]; omega⟩
  · simp at hcs
    obtain ⟨rfl, rfl, rfl⟩ := hcs
    have hle : len0 ≤ m := by rw [hmm]; split <;> omega
    have hnone : 0 < len0 → a.spot = none := by
      intro h0
      obtain ⟨cs', h1, h2⟩ := hall 0 (by omega)
      obtain ⟨o, rfl⟩ := in_open h2
      rw [cellsIn] at h1
      obtain ⟨_, hlen, hcell⟩ := World.cells?_some h1
      have c0 : w.cell? ((a.add (0 * 4)).add 0) = some (.int .i64 o.op) := by
        have := hcell 0 (by omega); rw [this]; rfl
      have := World.cell?_spot c0
      simpa [Addr.add] using this
    have hex : ∀ i, i < len0 → ∃ o : Sc.In, ∃ b off, a = ⟨b, off, none⟩ ∧ b < w.heap.size ∧ ∀ j, j < 4 → w.cell? ⟨b, off + i * 4 + j, none⟩ = (inCells o)[j]? := by
      intro i hi
      obtain ⟨cs', h1, h2⟩ := hall i (by omega)
      obtain ⟨o, rfl⟩ := in_open h2
      rw [cellsIn] at h1
      have hblk := World.cells?_block h1 (by omega)
      obtain ⟨_, hlen, hcell⟩ := World.cells?_some h1
      refine ⟨o, ?_⟩
      obtain ⟨b, off, spot⟩ := a
      have hspot : spot = none := hnone (by omega)
      subst hspot
      refine ⟨b, off, rfl, ?_, fun j hj => ?_⟩
      · have e : (Addr.add ⟨b, off, none⟩ (i * 4)).block = b := by unfold Addr.add; split <;> rfl
        rw [e] at hblk; exact hblk
      · have := hcell j hj
        have e : ((Addr.add ⟨b, off, none⟩ (i * 4)).add j) = ⟨b, off + i * 4 + j, none⟩ := by
          rw [Deep.add_add]; unfold Addr.add
          split
          · next h0 =>
            have h1 : i * 4 = 0 := by omega
            have h2 : j = 0 := by omega
            rw [h1, h2]; rfl
          · simp [Nat.add_assoc]
        rw [e] at this
        rw [this]; simp
    obtain ⟨f, hf⟩ := @Deep.choose_lt Sc.In ⟨⟨0, 0, 0, 0⟩⟩ len0 _ hex
    refine ⟨(List.range len0).map f, by simp, ?_, (fun h => by cases h), fun hw => ?_⟩
    · intro i hi
      have hi' : i < len0 := by simpa using hi
      have e : ((List.range len0).map f)[i] = f i := by simp
      rw [e]
      obtain ⟨b, off, h2, h3, h4⟩ := hf i hi'
      exact ⟨b, off, by rw [h2], h3, h4⟩
    · simp only [DataW.weights, Tryz.underlying29, List.all_cons, Bool.and_eq_true] at hw
      have h1 := hw.1
      simp only [decide_eq_true_eq, List.length_map, List.length_range, bytesIn, reachBytes] at h1
      omega

theorem op_open2 {H : Type} {enc : TypeId × Value → H} {w : World} {base : Nat} {spare : Nat → Bool} {held : Bool} {n : Nat} {cs : List Value} {y : DataW H × List MemPlace}
    (h : DataW.trod enc Tryz.prog w base spare held n 31 cs = some y) : ∃ o : Opr, cs = (opCells o).toList ∧ ((DataW.weights Tryz.prog 31 y.1).all (fun k => decide (k ≤ reachBytes)) = true → OprOk2 w o) := by
  obtain ⟨xs, m, _, hy, hl, hlen, hf⟩ := DataW.trod_struct Tryz.underlying31 h
  rw [cellsOp] at hl
  obtain ⟨c0, c1, c2, c3, c4, c5, rfl⟩ := six cs hl
  have hx : xs.length = 6 := hlen
  obtain ⟨x0, x1, x2, x3, x4, x5, rfl⟩ := six xs hx
  have f0 : DataW.trod enc Tryz.prog w base spare held m 3 (([c0, c1, c2, c3, c4, c5].drop 0).take (Tryz.prog.cellsOf 3)) = some x0 := hf 0 _ rfl
  rw [cells3] at f0
  have f1 : DataW.trod enc Tryz.prog w base spare held m 3 (([c0, c1, c2, c3, c4, c5].drop 1).take (Tryz.prog.cellsOf 3)) = some x1 := hf 1 _ rfl
  rw [cells3] at f1
  have f2 : DataW.trod enc Tryz.prog w base spare held m 9 (([c0, c1, c2, c3, c4, c5].drop 2).take (Tryz.prog.cellsOf 9)) = some x2 := hf 2 _ rfl
  rw [cells9] at f2
  have f3 : DataW.trod enc Tryz.prog w base spare held m 9 (([c0, c1, c2, c3, c4, c5].drop 3).take (Tryz.prog.cellsOf 9)) = some x3 := hf 3 _ rfl
  rw [cells9] at f3
  have f4 : DataW.trod enc Tryz.prog w base spare held m 9 (([c0, c1, c2, c3, c4, c5].drop 4).take (Tryz.prog.cellsOf 9)) = some x4 := hf 4 _ rfl
  rw [cells9] at f4
  have f5 : DataW.trod enc Tryz.prog w base spare held m 29 (([c0, c1, c2, c3, c4, c5].drop 5).take (Tryz.prog.cellsOf 29)) = some x5 := hf 5 _ rfl
  rw [cellsL] at f5
  simp only [List.drop, List.take] at f0 f1 f2 f3 f4 f5
  obtain ⟨k, e0, _, _⟩ := DataW.trod_int Tryz.underlying3 f0
  obtain ⟨nn, e1, _, hnn⟩ := DataW.trod_int Tryz.underlying3 f1
  obtain ⟨s, e2, _, hs⟩ := DataW.trod_string Tryz.underlying9 f2
  obtain ⟨p, e3, _, hp⟩ := DataW.trod_string Tryz.underlying9 f3
  obtain ⟨r, e4, _, hr⟩ := DataW.trod_string Tryz.underlying9 f4
  obtain ⟨la, ll, lc, e5⟩ := sliceForm Tryz.underlying29 f5
  simp at e0 e1 e2 e3 e4 e5
  subst e0 e1 e2 e3 e4 e5
  obtain ⟨L, l1, l2, l3, l4⟩ := list_open f5
  refine ⟨⟨k, nn, s, p, r, la, ll, lc⟩, rfl, fun hw => ⟨⟨hs, ⟨hp, (bounds_i64 hnn).1, (bounds_i64 hnn).2⟩, hr⟩, L, l1, l2, l3, l4 ?_⟩⟩
  rw [hy] at hw
  simp only [DataW.weights, Tryz.underlying31] at hw
  rw [List.all_eq_true] at hw ⊢
  intro q hq
  exact hw q (DataW.weights_mem_each (j := 5) (t := 29) rfl rfl q hq)

set_option maxRecDepth 100000 in
theorem script_open2 {H : Type} {enc : TypeId × Value → H} {w : World} {base : Nat} {spare : Nat → Bool} {held : Bool} {fuel : Nat} {a0 : Option Addr} {len0 cap0 : Nat} {x : DataW H × List MemPlace}
    (h : DataW.trod enc Tryz.prog w base spare held fuel 22 [.slice a0 len0 cap0] = some x) (hw : (DataW.weights Tryz.prog 22 x.1).all (fun k => decide (k ≤ reachBytes)) = true) :
    ∃ ops : List Opr, ops.length = len0 ∧ OpsAt2 w a0 ops ∧ ops.length ≤ 1599289640383 := by
  rcases Deep.open_slice Tryz.underlying22 h with ⟨hcs, _⟩ | ⟨a, len, cap, m, n, D, Pl, hcs, hb, hl, hm, hmm, rfl, hall⟩
  · simp at hcs
    exact ⟨[], hcs.2.1.symm, fun i hi => by simp at hi, by simp⟩
  · simp at hcs
    obtain ⟨rfl, rfl, rfl⟩ := hcs
    have hle : len0 ≤ m := by rw [hmm]; split <;> omega
    simp only [DataW.weights, Tryz.underlying22, List.all_cons, List.all_append, Bool.and_eq_true] at hw
    obtain ⟨hw1, hw2, hw3⟩ := hw
    simp only [decide_eq_true_eq, List.length_map, List.length_range, bytesOp, reachBytes] at hw1
    have hwi : ∀ i, i < len0 → (DataW.weights Tryz.prog 31 (D i)).all (fun k => decide (k ≤ reachBytes)) = true := by
      intro i hi
      rw [List.all_eq_true] at hw2 ⊢
      intro q hq
      refine hw2 q ?_
      exact weights_in_all (List.mem_map.2 ⟨i, List.mem_range.2 hi, rfl⟩) hq
    have hnone : 0 < len0 → a.spot = none := by
      intro h0
      obtain ⟨cs', h1, h2⟩ := hall 0 (by omega)
      obtain ⟨o, rfl, hok⟩ := op_open h2
      rw [cellsOp] at h1
      obtain ⟨_, hlen, hcell⟩ := World.cells?_some h1
      have c0 : w.cell? ((a.add (0 * 6)).add 0) = some (.int .i64 o.kind) := by
        have := hcell 0 (by omega); rw [this]; rfl
      have := World.cell?_spot c0
      simpa [Addr.add] using this
    have hex : ∀ i, i < len0 → ∃ o : Opr, OprOk2 w o ∧ ∃ b off, a = ⟨b, off, none⟩ ∧ b < w.heap.size ∧ ∀ j, j < 6 → w.cell? ⟨b, off + i * 6 + j, none⟩ = (opCells o)[j]? := by
      intro i hi
      obtain ⟨cs', h1, h2⟩ := hall i (by omega)
      obtain ⟨o, rfl, hok⟩ := op_open2 h2
      rw [cellsOp] at h1
      have hblk := World.cells?_block h1 (by omega)
      obtain ⟨_, hlen, hcell⟩ := World.cells?_some h1
      refine ⟨o, hok (hwi i hi), ?_⟩
      obtain ⟨b, off, spot⟩ := a
      have hspot : spot = none := hnone (by omega)
      subst hspot
      refine ⟨b, off, rfl, ?_, fun j hj => ?_⟩
      · have e : (Addr.add ⟨b, off, none⟩ (i * 6)).block = b := by unfold Addr.add; split <;> rfl
        rw [e] at hblk; exact hblk
      · have := hcell j hj
        have e : ((Addr.add ⟨b, off, none⟩ (i * 6)).add j) = ⟨b, off + i * 6 + j, none⟩ := by
          rw [Deep.add_add]; unfold Addr.add
          split
          · next h0 =>
            have h1 : i * 6 = 0 := by omega
            have h2 : j = 0 := by omega
            rw [h1, h2]; rfl
          · simp [Nat.add_assoc]
        rw [e] at this
        rw [this]; simp
    obtain ⟨f, hf⟩ := @Deep.choose_lt Opr ⟨⟨0, 0, .empty, .empty, .empty, none, 0, 0⟩⟩ len0 _ hex
    refine ⟨(List.range len0).map f, by simp, ?_, by simp; omega⟩
    intro i hi
    have hi' : i < len0 := by simpa using hi
    have e : ((List.range len0).map f)[i] = f i := by simp
    rw [e]
    obtain ⟨h1, b, off, h2, h3, h4⟩ := hf i hi'
    exact ⟨h1, b, off, by rw [h2], h3, h4⟩
end Go.Proofs.YtpamlgdopmjooaaGreat
