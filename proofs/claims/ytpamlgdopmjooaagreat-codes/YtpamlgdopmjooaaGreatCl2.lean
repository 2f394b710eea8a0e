/- sievelaw: lent. -/
import Derived.Test.YtpamlgdopmjooaaGreatCl1
namespace Go.Proofs.YtpamlgdopmjooaaGreat
open Go.RowKit
set_option linter.unusedVariables false
set_option linter.unusedSimpArgs false

theorem wpList_copy_wide {P : Program} {w : World} {ops : Array Oper} {rest : List Oper} {o : Oper} {a : Act} {Q : Exit → Act → World → Prop} (hgd : o.guard = none) (d s : Operand) (dT sT : TypeId)
    (ho : o.op = .call { callee := .builtin .copy, args := #[d, s], argTypes := #[dT, sT] }) (v : Value) (w' : World) (dv sv : Value) (hd : a.eval d = dv) (hs : a.eval s = sv)
    (hrun : (Builtin.copy_ #[dT, sT] o.type #[dv, sv]).run P w = .ok v w')
    (h : wpList P ops Q rest (a.put o.dst v) w') : wpList P ops Q (o :: rest) a w := by
  refine wpList_plain hgd fun K hK => ?_
  unfold Oper.wp
  simp [execOp, ho, resolve, invoke, builtin, hd, hs, hrun, Result.andThen]
  exact hK _ _ h
theorem eight {α : Type} (l : List α) (h : l.length = 8) : ∃ a b c d e f g i, l = [a, b, c, d, e, f, g, i] := by
  match l, h with
  | [a, b, c, d, e, f, g, i], _ => exact ⟨a, b, c, d, e, f, g, i, rfl⟩

theorem set_at (A Z : List Value) (n j : Nat) (v : Value) (hA : A.length = n) : ((A ++ Z).toArray).setIfInBounds (n + j) v = (A ++ Z.set j v).toArray := by
  subst hA
  rw [List.setIfInBounds_toArray, List.set_append]
  simp
  intro h; omega
theorem Blk.setAt {w : World} {b : Nat} {T : TypeId} {A Z : List Value} {n : Nat} (hA : A.length = n) (h : Blk w b T (A ++ Z).toArray) (j : Nat) (v : Value) : Blk (w.setCell ⟨b, n + j, none⟩ v) b T (A ++ Z.set j v).toArray := by
  have := h.set (n + j) v
  rw [set_at A Z n j v hA] at this
  exact this

set_option maxRecDepth 100000 in
set_option maxHeartbeats 4000000 in
theorem lent_any (w : World) (sa : Option Addr) (sc : Nat) (L : List Sc.In) (hI : InsAt w sa L) (hnil : sa = none → L.length = 0 ∧ sc = 0) (hb : L.length * 32 ≤ 140737488351232) :
    Calls Tryz.prog 28 #[.slice sa L.length sc] w fun e w' => e = .returned (.slice (some ⟨w.heap.size, 0, none⟩) L.length (L.length + 2)) ∧ w.grownBy w' none ∧ Blk w' w.heap.size 35 (insCells (L ++ [bynd, bynd])).toArray := by
  obtain ⟨iI, iI_e, iI_z, iI_s, iI_b⟩ := iIn_ex
  have iI_eq := hid iI_e
  have HI := hid hI
  clear iI_e
  have hil := insCells_len L
  go_enter Tryz.func28, Tryz.ntmps28
  go_wp2_with (first
    | (at_make; refine wpList_make_full _ rfl _ _ 29 rfl w.heap.size 35 iI zIn 4 uIn iI_eq.out iI_z iI_s _ _ _ _ (L.length + 2) rfl rfl (by first | rfl | omega) (by first | rfl | omega) (by rw [iI_b]; omega) (by unfold maxLen; omega) (Nat.le_refl _) ?_)
    | fail)
  intro w1 hown1 hgrow1
  have HG1 := hid hgrow1
  obtain ⟨cur, hcur, hcs⟩ : ∃ cur : Array Value, w1.heap[w.heap.size]? = some (.cells cur 35 (0, 0)) ∧ cur.size = (L.length + 2) * 4 := by
    rcases hown1.2 with ⟨h1, _⟩ | ⟨g, cap, cur, h1, h2, h3, h4, h5, h6, h7⟩
    · cases h1
    · simp only [Value.slice.injEq, Option.some.injEq, Addr.mk.injEq, and_true, true_and] at h1
      obtain ⟨rfl, rfl⟩ := h1
      exact ⟨cur, h3, h6⟩
  have hI1 := hI.keep hgrow1
  clear hown1 hI
  obtain ⟨w2, hrun, hG2, Z, hZ, hB2⟩ : ∃ w2, (Builtin.copy_ #[29, 29] 3 #[.slice (some ⟨w.heap.size, 0, none⟩) (L.length + 2) (L.length + 2), .slice sa L.length sc]).run Tryz.prog w1 = .ok (goInt L.length) w2 ∧ w.grownBy w2 none ∧
      ∃ Z : List Value, Z.length = 8 ∧ Blk w2 w.heap.size 35 (insCells L ++ Z).toArray := by
    have hdl : (cur.toList.drop (insCells L).length).length = 8 := by simp [hil, hcs]; omega
    cases sa with
    | none =>
      obtain ⟨h0, rfl⟩ := hnil rfl
      have hL : L = [] := List.eq_nil_of_length_eq_zero h0
      subst hL
      refine ⟨w1, ?_, hgrow1, cur.toList, by simpa using hcs, ?_⟩
      · exact run_copy_nil (P := Tryz.prog) w1 29 29 3 35 ⟨w.heap.size, 0, none⟩ 2 2 uIn (by rw [iI_eq.out]; rfl)
      · unfold Blk; simpa [insCells] using hcur
    | some ad =>
      refine ⟨_, run_copy_wide (P := Tryz.prog) w1 29 29 3 35 w.heap.size (L.length + 2) (L.length + 2) ad L.length sc 4 cur 35 (insCells L) uIn iI iI_eq.out iI_s hcur (by omega) hil ?_ (by rw [hil, hcs]; omega) ?_, ?_, cur.toList.drop (insCells L).length, hdl, ?_⟩
      · intro j v hj
        have hjl : j < L.length * 4 := by have := (List.getElem?_eq_some_iff.1 hj).1; omega
        obtain ⟨b, off, hbo, hbl, hc⟩ := hI1 (j / 4) (by omega)
        cases hbo
        have hc2 := hc (j % 4) (by omega)
        rw [← insCells_at L (j / 4) (j % 4) (by omega) (by omega)] at hc2
        have e1 : j / 4 * 4 + j % 4 = j := by omega
        have e2 : (Addr.add ⟨b, off, none⟩ j) = ⟨b, off + j / 4 * 4 + j % 4, none⟩ := by
          rw [Nat.add_assoc, e1]
          unfold Addr.add
          split
          · next h0 => subst h0; rfl
          · simp
        rw [e2, hc2, e1, hj]
      · intro u hu
        unfold insCells at hu
        rw [List.mem_flatMap] at hu
        obtain ⟨x, _, hx⟩ := hu
        simp [inCells] at hx
        rcases hx with rfl | rfl | rfl | rfl <;> rfl
      · exact ⟨hgrow1.os, hgrow1.tape, hgrow1.output, by simpa [World.setRow] using hgrow1.size, fun k hk hr => by rw [setRow_other _ _ _ _ (by omega)]; exact hgrow1.block k hk hr⟩
      · unfold Blk; exact setRow_heap w1 w.heap.size cur _ _ _ hcur
  have HG2 := hid hG2
  obtain ⟨z0, z1, z2, z3, z4, z5, z6, z7, rfl⟩ := eight Z hZ
  have HB2 := hid hB2
  have Hrun := hid hrun
  have cz : ∀ j, j < 8 → w2.cell? ⟨w.heap.size, L.length * 4 + j, none⟩ = [z0, z1, z2, z3, z4, z5, z6, z7][j]? := by
    intro j hj
    rw [hB2.cell]
    simp only [List.getElem?_toArray]
    rw [List.getElem?_append_right (by omega), hil]
    congr 1; omega
  have fz := hB2.fz
  have x0 := cz 0 (by omega)
  have x1 := cz 1 (by omega)
  have x2 := cz 2 (by omega)
  have x3 := cz 3 (by omega)
  have x4 := cz 4 (by omega)
  have x5 := cz 5 (by omega)
  have x6 := cz 6 (by omega)
  have x7 := cz 7 (by omega)
  simp at x0 x1 x2 x3 x4 x5 x6 x7
  have hl2 := hB2.lt
  clear hI1 hgrow1 hcur hcs hrun hG2 hB2 hZ cz
  go_wp2_with fail
  rw [Hrun.out]
  go_wp2_with fail
  refine (beyond_any _).mono ?_
  rintro e w3 ⟨rfl, rfl⟩
  simp only [inCells, bynd]
  go_wp2_with fail
  have B3 : Blk ((((w2.setCell ⟨w.heap.size, L.length * 4, none⟩ (.int .i64 (-7))).setCell ⟨w.heap.size, L.length * 4 + 1, none⟩ (.int .i64 7)).setCell ⟨w.heap.size, L.length * 4 + 2, none⟩ (.int .i64 (-7))).setCell ⟨w.heap.size, L.length * 4 + 3, none⟩ (.int .i64 7)) w.heap.size 35 (insCells L ++ [.int .i64 (-7), .int .i64 7, .int .i64 (-7), .int .i64 7, z4, z5, z6, z7]).toArray :=
    Blk.setAt hil (Blk.setAt hil (Blk.setAt hil (Blk.setAt hil HB2.out 0 (.int .i64 (-7))) 1 (.int .i64 7)) 2 (.int .i64 (-7))) 3 (.int .i64 7)
  have G3 : w.grownBy ((((w2.setCell ⟨w.heap.size, L.length * 4, none⟩ (.int .i64 (-7))).setCell ⟨w.heap.size, L.length * 4 + 1, none⟩ (.int .i64 7)).setCell ⟨w.heap.size, L.length * 4 + 2, none⟩ (.int .i64 (-7))).setCell ⟨w.heap.size, L.length * 4 + 3, none⟩ (.int .i64 7)) none :=
    gb_own (gb_own (gb_own (gb_own HG2.out (Nat.le_refl _) _ _) (Nat.le_refl _) _ _) (Nat.le_refl _) _ _) (Nat.le_refl _) _ _
  clear x0 x1 x2 x3 x4 x5 x6 x7 fz HB2 HG2
  generalize ((((w2.setCell ⟨w.heap.size, L.length * 4, none⟩ (.int .i64 (-7))).setCell ⟨w.heap.size, L.length * 4 + 1, none⟩ (.int .i64 7)).setCell ⟨w.heap.size, L.length * 4 + 2, none⟩ (.int .i64 (-7))).setCell ⟨w.heap.size, L.length * 4 + 3, none⟩ (.int .i64 7)) = w3 at *
  have cz : ∀ j, j < 4 → w3.cell? ⟨w.heap.size, (L.length + 1) * 4 + j, none⟩ = [z4, z5, z6, z7][j]? := by
    intro j hj
    rw [B3.cell]
    simp only [List.getElem?_toArray]
    rw [List.getElem?_append_right (by omega), hil]
    have : (L.length + 1) * 4 + j - L.length * 4 = j + 4 := by omega
    rw [this]
    rfl
  have fz := B3.fz
  have x0 := cz 0 (by omega)
  have x1 := cz 1 (by omega)
  have x2 := cz 2 (by omega)
  have x3 := cz 3 (by omega)
  simp at x0 x1 x2 x3
  have hl3 := B3.lt
  have HB3 := hid B3
  have HG3 := hid G3
  clear B3 G3 cz hl2
  refine (beyond_any _).mono ?_
  rintro e w4 ⟨rfl, rfl⟩
  simp only [inCells, bynd]
  go_wp2_with fail
  go_ret
  have hil2 : (insCells (L ++ [bynd])).length = (L.length + 1) * 4 := by rw [insCells_len]; simp
  have B4 : Blk w3 w.heap.size 35 (insCells (L ++ [bynd]) ++ [z4, z5, z6, z7]).toArray := by
    have := HB3.out
    rw [insCells_snoc]
    simpa [inCells, bynd] using this
  have e5 : insCells (L ++ [bynd, bynd]) = insCells (L ++ [bynd]) ++ [.int .i64 (-7), .int .i64 7, .int .i64 (-7), .int .i64 7] := by
    have : L ++ [bynd, bynd] = (L ++ [bynd]) ++ [bynd] := by simp
    rw [this, insCells_snoc]; rfl
  refine ⟨rfl, ?_, ?_⟩
  · exact gb_alloc (gb_alloc (gb_own (gb_own (gb_own (gb_own HG3.out (Nat.le_refl _) _ _) (Nat.le_refl _) _ _) (Nat.le_refl _) _ _) (Nat.le_refl _) _ _) _) _
  · rw [e5]
    exact Blk.alloc (Blk.alloc (Blk.setAt hil2 (Blk.setAt hil2 (Blk.setAt hil2 (Blk.setAt hil2 B4 0 (.int .i64 (-7))) 1 (.int .i64 7)) 2 (.int .i64 (-7))) 3 (.int .i64 7)) _) _
end Go.Proofs.YtpamlgdopmjooaaGreat
