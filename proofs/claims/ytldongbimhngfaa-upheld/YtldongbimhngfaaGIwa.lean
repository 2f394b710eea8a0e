import Derived.Test.YtldongbimhngfaaGIm
/- The program's facts: their walks. -/
namespace Go.Proofs.Ytldongbimhngfaa
open Go.RowKit
set_option linter.unusedVariables false
set_option linter.unusedSimpArgs false

theorem imIt_ex : ∃ i, Try.prog.info? 3 = some i ∧ i.zero = some (.int .i64 0) ∧ i.size = 1 ∧ i.bytes = 8 := info_ex (by kernel_rfl)
theorem imIts : Try.prog.underlying 22 = some (.slice 3) := by kernel_rfl
theorem imBo_ex : ∃ i, Try.prog.info? 4 = some i ∧ i.zero = some (.bool false) ∧ i.size = 1 ∧ i.bytes = 1 := info_ex (by kernel_rfl)
theorem imBos : Try.prog.underlying 66 = some (.slice 4) := by kernel_rfl
theorem own_int {w : World} {base g n cap : Nat} {O : List Int} (hn : n = O.length) (h : w.ownsRow base 3 1 (.slice (some ⟨g, 0, none⟩) n cap) n (O.map (Value.int .i64))) (i : Nat) (hi : i < O.length) : w.cell? ⟨g, i, none⟩ = some (.int .i64 (Sc.fAt O i)) := by
  rw [h.cellAt i (by omega)]
  simp [hi, Sc.fAt]
theorem own_iset {w : World} {base g n cap : Nat} {O : List Int} (h : w.ownsRow base 3 1 (.slice (some ⟨g, 0, none⟩) n cap) n (O.map (Value.int .i64))) (i : Nat) (v : Int) : (w.setCell ⟨g, i, none⟩ (.int .i64 v)).ownsRow base 3 1 (.slice (some ⟨g, 0, none⟩) n cap) n ((O.set i v).map (Value.int .i64)) := by
  have := (h.stored i (.int .i64 v)).1
  rw [List.map_set]
  exact this
/-- the facts as they lie in memory -/
structure FactsAt (w : World) (base kb g n : Nat) (A : List Int) : Prop where
  len : A.length = n
  blk : Blk w kb 135 #[.slice (some ⟨g, 0, none⟩) n n]
  row : w.ownsRow base 3 1 (.slice (some ⟨g, 0, none⟩) n n) n (A.map (Value.int .i64))
theorem FactsAt.ne {w : World} {base kb g n : Nat} {A : List Int} (h : FactsAt w base kb g n A) : kb ≠ g := by
  intro e
  exact owns_blk h.row h.blk (by decide) (by rw [e]; rfl)
theorem FactsAt.keep {w w' : World} {base kb g n : Nat} {A : List Int} (h : FactsAt w base kb g n A) (hg : w.grownBy w' none) : FactsAt w' base kb g n A :=
  ⟨h.len, h.blk.keep hg (by simp), kept_none h.row hg⟩
theorem FactsAt.set {w : World} {base kb g n : Nat} {A : List Int} (h : FactsAt w base kb g n A) (i : Nat) (v : Int) : FactsAt (w.setCell ⟨g, i, none⟩ (.int .i64 v)) base kb g n (A.set i v) :=
  ⟨by rw [List.length_set]; exact h.len, h.blk.other (Ne.symm h.ne) _ _, own_iset h.row i v⟩

set_option maxRecDepth 100000 in
set_option maxHeartbeats 4000000 in
theorem fAt_any (w : World) (base kb g n : Nat) (A : List Int) (h : FactsAt w base kb g n A) (i : Nat) (hi : i < n) (hn : n ≤ 1024) :
    Calls Try.prog 98 #[.pointer (some ⟨kb, 0, none⟩), .int .i64 i] w fun e w' => e = .returned (.int .i64 (Sc.fAt A i)) ∧ w' = w := by
  have c0 := h.blk.cell 0
  simp at c0
  have c1 := own_int h.len.symm h.row i (by rw [h.len]; exact hi)
  have hlt : (i : Int) < (n : Int) := by omega
  clear h
  generalize Sc.fAt A i = V at *
  go_enter Try.func98, Try.ntmps98
  go_wp2_with fail
  go_ret
  exact ⟨rfl, rfl⟩
set_option maxRecDepth 100000 in
set_option maxHeartbeats 4000000 in
theorem fLead_any (w : World) (base kb g n : Nat) (A : List Int) (h : FactsAt w base kb g n A) (i : Nat) (hi : i < n) (hn : n ≤ 1024) (v : Int) :
    Calls Try.prog 111 #[.pointer (some ⟨kb, 0, none⟩), .int .i64 i, .int .i64 v] w fun e w' => e = .returned (.tuple #[]) ∧ FactsAt w' base kb g n (Sc.lead A i v) ∧ w.grownBy w' (some g) := by
  have c0 := h.blk.cell 0
  simp at c0
  have c1 := own_int h.len.symm h.row i (by rw [h.len]; exact hi)
  have cf := h.row.frozenAt i
  have hlt : (i : Int) < (n : Int) := by omega
  have hdef : Hid (Sc.lead A i v = if Sc.fAt A i = -2 then A.set i v else if Sc.fAt A i = v then A else A.set i (-1)) := rfl
  have H := hid h
  clear h
  generalize Sc.fAt A i = V at *
  by_cases q2 : V = -2
  · subst q2
    have hv : Hid (Sc.lead A i v = A.set i v) := by unfold Hid; rw [hdef.out, if_pos rfl]
    have Hs := hid (H.out.set i v)
    clear hdef H
    go_enter Try.func111, Try.ntmps111
    go_wp2_with fail
    try simp only [Exit.inBlock, Exit.then]
    refine bodyPost_ret (results_none rfl _ _ _) rfl ?_
    rw [hv.out]
    exact ⟨rfl, Hs.out, gb_set (gb_refl _ _) _ _⟩
  · have e2 : (V == -2) = false := by simp [q2]
    by_cases qv : V = v
    · subst qv
      have hv : Hid (Sc.lead A i V = A) := by unfold Hid; rw [hdef.out, if_neg q2, if_pos rfl]
      have e3 : (V == V) = true := by simp
      clear hdef
      go_enter Try.func111, Try.ntmps111
      go_wp2_with fail
      go_end0
      rw [hv.out]
      exact ⟨rfl, H.out, gb_refl _ _⟩
    · have hv : Hid (Sc.lead A i v = A.set i (-1)) := by unfold Hid; rw [hdef.out, if_neg q2, if_neg qv]
      have e3 : (V == v) = false := by simp [qv]
      have Hs := hid (H.out.set i (-1))
      clear hdef H qv q2
      go_enter Try.func111, Try.ntmps111
      go_wp2_with fail
      go_end0
      rw [hv.out]
      exact ⟨rfl, Hs.out, gb_set (gb_refl _ _) _ _⟩
end Go.Proofs.Ytldongbimhngfaa
/- The program's facts: goOn, and what is known behind an instruction. -/
namespace Go.Proofs.Ytldongbimhngfaa
open Go.RowKit
set_option linter.unusedVariables false
set_option linter.unusedSimpArgs false

theorem FactsAt.grown {w w' : World} {base kb g n : Nat} {A : List Int} (h : FactsAt w base kb g n A) (hg : w.grownBy w' none) : FactsAt w' base kb g n A := h.keep hg
theorem gb_some {a b : World} {rb : Nat} (h : a.grownBy b none) : a.grownBy b (some rb) := ⟨h.os, h.tape, h.output, h.size, fun k hk _ => h.block k hk (by simp)⟩

set_option maxRecDepth 100000 in
set_option maxHeartbeats 4000000 in
theorem fGoOn_any (w : World) (base kb g n : Nat) (A : List Int) (h : FactsAt w base kb g n A) (hgw : g < w.heap.size) (i : Nat) (x : Sc.In) (hx : InRng x) (hn : n ≤ 1024) (hin : ∀ to ∈ Sc.tos i x, to < n) (bt ot : Int) :
    Calls Try.prog 99 #[.pointer (some ⟨kb, 0, none⟩), .int .i64 i, .agg (inCells x), .int .i64 bt, .int .i64 ot] w fun e w' => e = .returned (.tuple #[]) ∧ FactsAt w' base kb g n (Sc.leads A (Sc.edges i x bt ot)) ∧ w.grownBy w' (some g) := by
  obtain ⟨op, t, f, k⟩ := x
  obtain ⟨x1, x2, x3, x4, x5, x6, x7, x8⟩ := hx
  simp only at x1 x2 x3 x4 x5 x6 x7 x8
  simp only [inCells]
  obtain ⟨t, rfl⟩ := Int.eq_ofNat_of_zero_le x3
  obtain ⟨f, rfl⟩ := Int.eq_ofNat_of_zero_le x5
  obtain ⟨k, rfl⟩ := Int.eq_ofNat_of_zero_le x7
  have hT := hid (fun w => mIsTest_any w op)
  have hE := hid (fun w => mIsEnd_any w op)
  have hle : ∀ (w : World) (A : List Int) (h : FactsAt w base kb g n A) (i : Nat) (hi : i < n) (v : Int), Calls Try.prog 111 #[.pointer (some ⟨kb, 0, none⟩), .int .i64 i, .int .i64 v] w fun e w' => e = .returned (.tuple #[]) ∧ FactsAt w' base kb g n (Sc.lead A i v) ∧ w.grownBy w' (some g) := fun w A h i hi v => fLead_any w base kb g n A h i hi hn v
  have HL := hid hle
  have H := hid h
  clear h hle
  have hdef : Hid (Sc.edges i ⟨op, (t : Int), (f : Int), (k : Int)⟩ bt ot = if Sc.isTest op = true then [(i + 1 + f, ot), (i + 1 + t, bt)] else if op = 10 then [(i + 1 + k, ot)] else if op = 15 ∨ op = 16 then [] else [(i + 1, ot)]) := rfl
  have htos : Hid (Sc.tos i ⟨op, (t : Int), (f : Int), (k : Int)⟩ = if Sc.isTest op = true then [i + 1 + f, i + 1 + t] else if op = 10 then [i + 1 + k] else if op = 15 ∨ op = 16 then [] else [i + 1]) := rfl
  rw [htos.out] at hin
  have B0 := hid (Blk.new w 46 #[.int .i64 op, .int .i64 t, .int .i64 f, .int .i64 k])
  have G0 := hid (gb_alloc (gb_refl w none) (.cells #[.int .i64 op, .int .i64 t, .int .i64 f, .int .i64 k] 46))
  by_cases ht : Sc.isTest op = true
  · have hv : Hid (Sc.edges i ⟨op, (t : Int), (f : Int), (k : Int)⟩ bt ot = [(i + 1 + f, ot), (i + 1 + t, bt)]) := by unfold Hid; rw [hdef.out, if_pos ht]
    rw [if_pos ht] at hin
    have ht1 : i + 1 + t < n := hin _ (by simp)
    have hf1 : i + 1 + f < n := hin _ (by simp)
    rw [ht] at hT
    clear hdef htos hin hE
    go_enter Try.func99, Try.ntmps99
    go_wp2_with fail
    refine (hT.out _).mono ?_
    rintro e w1 ⟨rfl, rfl⟩
    clear hT
    have L1 := hid (HL.out _ A (H.out.keep G0.out) (i + 1 + t) ht1 bt)
    have e1 : ((i + 1 + t : Nat) : Int) = (i : Int) + 1 + (t : Int) := by omega
    rw [e1] at L1
    go_wp2_with fail
    refine L1.out.mono ?_
    rintro e w2 ⟨rfl, hF2, hg2⟩
    have B2 := B0.out.keep hg2 (by simp; omega)
    have b2 := B2.cell 2
    simp at b2
    have L2 := hid (HL.out _ _ hF2 (i + 1 + f) hf1 ot)
    have e2 : ((i + 1 + f : Nat) : Int) = (i : Int) + 1 + (f : Int) := by omega
    rw [e2] at L2
    have G2 := hid (gb_trans (gb_some G0.out) hg2)
    clear L1 hF2 hg2 HL
    go_wp2_with fail
    refine L2.out.mono ?_
    rintro e w3 ⟨rfl, hF3, hg3⟩
    have HF3 := hid hF3
    have G3 := hid (gb_trans G2.out hg3)
    clear L2 hF3 hg3
    go_wp2_with fail
    try simp only [Exit.inBlock, Exit.then]
    refine bodyPost_ret (results_none rfl _ _ _) rfl ?_
    rw [hv.out]
    exact ⟨rfl, HF3.out, G3.out⟩
  · have hnt : Sc.isTest op = false := by simpa using ht
    rw [hnt] at hT
    rw [if_neg ht] at hin
    by_cases h10 : op = 10
    · have hv : Hid (Sc.edges i ⟨op, (t : Int), (f : Int), (k : Int)⟩ bt ot = [(i + 1 + k, ot)]) := by unfold Hid; rw [hdef.out, if_neg ht, if_pos h10]
      rw [if_pos h10] at hin
      have ht1 : i + 1 + k < n := hin _ (by simp)
      subst h10
      have L1 := hid (HL.out _ A (H.out.keep G0.out) (i + 1 + k) ht1 ot)
      have e1 : ((i + 1 + k : Nat) : Int) = (i : Int) + 1 + (k : Int) := by omega
      rw [e1] at L1
      clear hdef htos hin hE HL
      go_enter Try.func99, Try.ntmps99
      go_wp2_with fail
      refine (hT.out _).mono ?_
      rintro e w1 ⟨rfl, rfl⟩
      clear hT
      go_wp2_with fail
      refine L1.out.mono ?_
      rintro e w2 ⟨rfl, hF2, hg2⟩
      have HF2 := hid hF2
      have G2 := hid (gb_trans (gb_some G0.out) hg2)
      clear L1 hF2 hg2
      go_wp2_with fail
      try simp only [Exit.inBlock, Exit.then]
      refine bodyPost_ret (results_none rfl _ _ _) rfl ?_
      rw [hv.out]
      exact ⟨rfl, HF2.out, G2.out⟩
    · have e10 : (op == 10) = false := by simp [h10]
      rw [if_neg h10] at hin
      by_cases he : op = 15 ∨ op = 16
      · have hv : Hid (Sc.edges i ⟨op, (t : Int), (f : Int), (k : Int)⟩ bt ot = []) := by unfold Hid; rw [hdef.out, if_neg ht, if_neg h10, if_pos he]
        have hd : decide (op = 15 ∨ op = 16) = true := by simp [he]
        rw [hd] at hE
        have HK := hid (H.out.keep G0.out)
        clear hdef htos hin HL he hd ht hnt h10
        go_enter Try.func99, Try.ntmps99
        go_wp2_with fail
        refine (hT.out _).mono ?_
        rintro e w1 ⟨rfl, rfl⟩
        clear hT
        go_wp2_with fail
        refine (hE.out _).mono ?_
        rintro e w1 ⟨rfl, rfl⟩
        clear hE
        go_wp2_with fail
        go_end0
        rw [hv.out]
        exact ⟨rfl, HK.out, gb_some G0.out⟩
      · have hv : Hid (Sc.edges i ⟨op, (t : Int), (f : Int), (k : Int)⟩ bt ot = [(i + 1, ot)]) := by unfold Hid; rw [hdef.out, if_neg ht, if_neg h10, if_neg he]
        rw [if_neg he] at hin
        have ht1 : i + 1 < n := hin _ (by simp)
        have hd : decide (op = 15 ∨ op = 16) = false := by simp [he]
        rw [hd] at hE
        have L1 := hid (HL.out _ A (H.out.keep G0.out) (i + 1) ht1 ot)
        have e1 : ((i + 1 : Nat) : Int) = (i : Int) + 1 := by omega
        rw [e1] at L1
        clear hdef htos hin HL he hd ht hnt h10
        go_enter Try.func99, Try.ntmps99
        go_wp2_with fail
        refine (hT.out _).mono ?_
        rintro e w1 ⟨rfl, rfl⟩
        clear hT
        go_wp2_with fail
        refine (hE.out _).mono ?_
        rintro e w1 ⟨rfl, rfl⟩
        clear hE
        go_wp2_with fail
        refine L1.out.mono ?_
        rintro e w2 ⟨rfl, hF2, hg2⟩
        have HF2 := hid hF2
        have G2 := hid (gb_trans (gb_some G0.out) hg2)
        clear L1 hF2 hg2
        go_wp2_with fail
        go_end0
        rw [hv.out]
        exact ⟨rfl, HF2.out, G2.out⟩
end Go.Proofs.Ytldongbimhngfaa
/- What is known behind an instruction; what is put for it: the program's walks. -/
namespace Go.Proofs.Ytldongbimhngfaa
open Go.RowKit
set_option linter.unusedVariables false
set_option linter.unusedSimpArgs false

set_option maxRecDepth 100000 in
set_option maxHeartbeats 4000000 in
theorem iWord_any (w : World) (x : Sc.In) (a : Int) :
    Calls Try.prog 102 #[.agg (inCells x), .int .i64 a] w fun e w' => e = .returned (.int .i64 (Sc.wordB x a)) ∧ w.grownBy w' none := by
  obtain ⟨op, t, f, k⟩ := x
  simp only [inCells]
  have hT := hid (fun w => mIsTest_any w op)
  have hv : Hid (Sc.wordB ⟨op, t, f, k⟩ a = if op = 1 then k else if op = 4 ∨ op = 10 ∨ Sc.isTest op = true then a else -1) := rfl
  by_cases q1 : op = 1
  · have hv1 : Hid (Sc.wordB ⟨op, t, f, k⟩ a = k) := by unfold Hid; rw [hv.out, if_pos q1]
    subst q1
    clear hv hT
    go_enter Try.func102, Try.ntmps102
    go_wp2_with fail
    go_ret
    rw [hv1.out]
    exact ⟨rfl, gb_alloc (gb_refl _ _) _⟩
  have e1 : (op == 1) = false := by simp [q1]
  by_cases q4 : op = 4
  · have hv1 : Hid (Sc.wordB ⟨op, t, f, k⟩ a = a) := by unfold Hid; rw [hv.out, if_neg q1, if_pos (Or.inl q4)]
    subst q4
    clear hv hT q1 e1
    go_enter Try.func102, Try.ntmps102
    go_wp2_with fail
    go_ret
    rw [hv1.out]
    exact ⟨rfl, gb_alloc (gb_refl _ _) _⟩
  have e4 : (op == 4) = false := by simp [q4]
  by_cases q10 : op = 10
  · have hv1 : Hid (Sc.wordB ⟨op, t, f, k⟩ a = a) := by unfold Hid; rw [hv.out, if_neg q1, if_pos (Or.inr (Or.inl q10))]
    subst q10
    clear hv hT q1 e1 q4 e4
    go_enter Try.func102, Try.ntmps102
    go_wp2_with fail
    go_ret
    rw [hv1.out]
    exact ⟨rfl, gb_alloc (gb_refl _ _) _⟩
  have e10 : (op == 10) = false := by simp [q10]
  cases ht : Sc.isTest op
  · have hv1 : Hid (Sc.wordB ⟨op, t, f, k⟩ a = -1) := by unfold Hid; rw [hv.out, if_neg q1, if_neg (by simp [q4, q10, ht])]
    rw [ht] at hT
    clear hv q1 q4 q10 ht
    go_enter Try.func102, Try.ntmps102
    go_wp2_with fail
    refine (hT.out _).mono ?_
    rintro e w1 ⟨rfl, rfl⟩
    clear hT
    go_wp2_with fail
    go_ret
    rw [hv1.out]
    exact ⟨rfl, gb_alloc (gb_refl _ _) _⟩
  · have hv1 : Hid (Sc.wordB ⟨op, t, f, k⟩ a = a) := by unfold Hid; rw [hv.out, if_neg q1, if_pos (Or.inr (Or.inr ht))]
    rw [ht] at hT
    clear hv q1 q4 q10 ht
    go_enter Try.func102, Try.ntmps102
    go_wp2_with fail
    refine (hT.out _).mono ?_
    rintro e w1 ⟨rfl, rfl⟩
    clear hT
    go_wp2_with fail
    go_ret
    rw [hv1.out]
    exact ⟨rfl, gb_alloc (gb_refl _ _) _⟩

set_option maxRecDepth 100000 in
set_option maxHeartbeats 4000000 in
theorem iNumber_any (w : World) (x : Sc.In) (a : Int) (h2 : a ≤ 65535) (h3 : 0 ≤ x.k) (h4 : x.k ≤ 65535) (h8 : x.op = 8 → x.k ≠ 0) (h9 : x.op = 9 → x.k ≤ 15) :
    Calls Try.prog 105 #[.agg (inCells x), .int .i64 a] w fun e w' => e = .returned (.int .i64 (Sc.valueB x false a)) ∧ w.grownBy w' none := by
  obtain ⟨op, t, f, k⟩ := x
  simp only at h3 h4 h8 h9
  simp only [inCells]
  have hv : Hid (Sc.valueB ⟨op, t, f, k⟩ false a = if op = 2 then k else if op = 1 ∨ op = 3 ∨ a < 0 then -1 else Sc.becomes ⟨op, t, f, k⟩ a) := by
    unfold Hid Sc.valueB; simp
  by_cases q2 : op = 2
  · have hv1 : Hid (Sc.valueB ⟨op, t, f, k⟩ false a = k) := by unfold Hid; rw [hv.out, if_pos q2]
    subst q2
    clear hv h8 h9
    go_enter Try.func105, Try.ntmps105
    go_wp2_with fail
    go_ret
    rw [hv1.out]
    exact ⟨rfl, gb_alloc (gb_refl _ _) _⟩
  have e2 : (op == 2) = false := by simp [q2]
  by_cases q1 : op = 1
  · have hv1 : Hid (Sc.valueB ⟨op, t, f, k⟩ false a = -1) := by unfold Hid; rw [hv.out, if_neg q2, if_pos (Or.inl q1)]
    subst q1
    clear hv h8 h9 q2 e2
    go_enter Try.func105, Try.ntmps105
    go_wp2_with fail
    go_ret
    rw [hv1.out]
    exact ⟨rfl, gb_alloc (gb_refl _ _) _⟩
  have e1 : (op == 1) = false := by simp [q1]
  by_cases q3 : op = 3
  · have hv1 : Hid (Sc.valueB ⟨op, t, f, k⟩ false a = -1) := by unfold Hid; rw [hv.out, if_neg q2, if_pos (Or.inr (Or.inl q3))]
    subst q3
    clear hv h8 h9 q2 e2 q1 e1
    go_enter Try.func105, Try.ntmps105
    go_wp2_with fail
    go_ret
    rw [hv1.out]
    exact ⟨rfl, gb_alloc (gb_refl _ _) _⟩
  have e3 : (op == 3) = false := by simp [q3]
  by_cases q0 : a < 0
  · have hv1 : Hid (Sc.valueB ⟨op, t, f, k⟩ false a = -1) := by unfold Hid; rw [hv.out, if_neg q2, if_pos (Or.inr (Or.inr q0))]
    clear hv h8 h9 q2 q1 q3
    go_enter Try.func105, Try.ntmps105
    go_wp2_with fail
    go_ret
    rw [hv1.out]
    exact ⟨rfl, gb_alloc (gb_refl _ _) _⟩
  · have hv1 : Hid (Sc.valueB ⟨op, t, f, k⟩ false a = Sc.becomes ⟨op, t, f, k⟩ a) := by unfold Hid; rw [hv.out, if_neg q2, if_neg (by simp [q1, q3, q0])]
    have hR := hid (fun w => mReckon_any w op t f a k (by omega) h2 h3 h4 h8 h9)
    clear hv h8 h9 q2 q1 q3
    go_enter Try.func105, Try.ntmps105
    go_wp2_with fail
    refine (hR.out _).mono ?_
    rintro e w1 ⟨rfl, rfl⟩
    clear hR
    go_wp2_with fail
    go_ret
    rw [hv1.out]
    exact ⟨rfl, gb_alloc (gb_refl _ _) _⟩
set_option maxRecDepth 100000 in
set_option maxHeartbeats 4000000 in
theorem iByT_any (w : World) (x : Sc.In) (a : Int) (h2 : a ≤ 65535) (h3 : 0 ≤ x.k) (h4 : x.k ≤ 65535) (h8 : x.op = 8 → x.k ≠ 0) (h9 : x.op = 9 → x.k ≤ 15) :
    Calls Try.prog 104 #[.agg (inCells x), .int .i64 a] w fun e w' => e = .returned (.int .i64 (Sc.valueB x true a)) ∧ w.grownBy w' none := by
  have hN := hid (fun w => iNumber_any w x a h2 h3 h4 h8 h9)
  have hv : Hid (x.op = 11 → Sc.valueB x true a = x.k) := by
    intro h; unfold Sc.valueB; rw [if_pos (Or.inr ⟨h, rfl⟩)]
  have hv2 : Hid (x.op ≠ 11 → Sc.valueB x true a = Sc.valueB x false a) := by
    intro h; unfold Sc.valueB; simp [h]
  generalize Sc.valueB x true a = V at *
  generalize Sc.valueB x false a = V2 at *
  obtain ⟨op, t, f, k⟩ := x
  simp only [inCells] at hN ⊢
  simp only at hv hv2
  clear h2 h3 h4 h8 h9
  by_cases q : op = 11
  · have h := hid (hv.out q)
    subst q
    clear hv hv2 hN
    go_enter Try.func104, Try.ntmps104
    go_wp2_with fail
    go_ret
    rw [h.out]
    exact ⟨rfl, gb_alloc (gb_refl _ _) _⟩
  · have h := hid (hv2.out q)
    have e : (op == 11) = false := by simp [q]
    clear hv hv2 q
    go_enter Try.func104, Try.ntmps104
    go_wp2_with fail
    refine (hN.out _).mono ?_
    rintro e w1 ⟨rfl, hg⟩
    have G := hid hg
    clear hN hg
    go_wp2_with fail
    go_ret
    rw [h.out]
    exact ⟨rfl, gb_trans (gb_alloc (gb_refl _ _) _) G.out⟩
set_option maxRecDepth 100000 in
set_option maxHeartbeats 4000000 in
theorem iSettled_any (w : World) (x : Sc.In) (a : Int) (h1 : 0 ≤ a) (h2 : a ≤ 65535) (h3 : 0 ≤ x.k) (h4 : x.k ≤ 65535) :
    Calls Try.prog 103 #[.agg (inCells x), .int .i64 a] w fun e w' => e = .returned (.agg (inCells (Sc.settledB x a))) ∧ w.grownBy w' none := by
  have hH := hid (fun w => mHop_any w x a h1 h2 h3 h4)
  have hT := hid (fun w => mIsTest_any w x.op)
  have hv1 : Hid (Sc.isTest x.op = true → Sc.settledB x a = ⟨10, 0, 0, Sc.hop x a⟩) := by intro h; unfold Sc.settledB; rw [if_pos h]
  have hv2 : Hid (Sc.isTest x.op = false → x.op = 16 → Sc.settledB x a = ⟨15, 0, 0, a⟩) := by intro h h2; unfold Sc.settledB; rw [if_neg (by simp [h]), if_pos h2]
  have hv3 : Hid (Sc.isTest x.op = false → x.op ≠ 16 → Sc.settledB x a = x) := by intro h h2; unfold Sc.settledB; rw [if_neg (by simp [h]), if_neg h2]
  generalize Sc.hop x a = V at *
  generalize Sc.settledB x a = X at *
  obtain ⟨op, t, f, k⟩ := x
  simp only [inCells] at hH
  simp only at hT hv1 hv2 hv3
  have hin : (#[Value.int .i64 op, .int .i64 t, .int .i64 f, .int .i64 k] : Array Value) = inCells ⟨op, t, f, k⟩ := rfl
  rw [← hin]
  clear hin h1 h2 h3 h4
  cases ht : Sc.isTest op
  · rw [ht] at hT hv2 hv3
    by_cases q : op = 16
    · have h := hid (hv2.out rfl q)
      subst q
      clear hv1 hv2 hv3 hH
      go_enter Try.func103, Try.ntmps103
      go_wp2_with fail
      refine (hT.out _).mono ?_
      rintro e w1 ⟨rfl, rfl⟩
      clear hT
      go_wp2_with fail
      refine bodyPost_ret (v := .agg (inCells X)) (by rw [h.out]; simp [results, Try.results103, go_sem, inCells]) rfl ⟨rfl, ?_⟩
      exact gb_alloc (gb_alloc (gb_refl _ _) _) _
    · have h := hid (hv3.out rfl q)
      have e : (op == 16) = false := by simp [q]
      clear hv1 hv2 hv3 hH q
      go_enter Try.func103, Try.ntmps103
      go_wp2_with fail
      refine (hT.out _).mono ?_
      rintro e w1 ⟨rfl, rfl⟩
      clear hT
      go_wp2_with fail
      refine bodyPost_ret (v := .agg (inCells X)) (by rw [h.out]; simp [results, Try.results103, go_sem, inCells]) rfl ⟨rfl, ?_⟩
      exact gb_alloc (gb_alloc (gb_refl _ _) _) _
  · rw [ht] at hT hv1
    have h := hid (hv1.out rfl)
    clear hv1 hv2 hv3
    go_enter Try.func103, Try.ntmps103
    go_wp2_with fail
    refine (hT.out _).mono ?_
    rintro e w1 ⟨rfl, rfl⟩
    clear hT
    go_wp2_with fail
    refine (hH.out _).mono ?_
    rintro e w1 ⟨rfl, hg⟩
    have G := hid hg
    have B := ((Blk.new (w.alloc (.cells #[.int .i64 op, .int .i64 t, .int .i64 f, .int .i64 k] 46)) 46 #[.int .i64 0, .int .i64 0, .int .i64 0, .int .i64 0]).keep hg (by simp))
    have fz := B.fz
    have e0 : (w.alloc (.cells #[.int .i64 op, .int .i64 t, .int .i64 f, .int .i64 k] 46)).heap.size = w.heap.size + 1 := by simp
    rw [e0] at fz B
    have b0 := B.cell 0
    have b1 := B.cell 1
    have b2 := B.cell 2
    have b3 := B.cell 3
    have hlt := B.lt
    simp at b0 b1 b2 b3
    have HB := hid ((((B.set 0 (.int .i64 10)).set 1 (.int .i64 0)).set 2 (.int .i64 0)).set 3 (.int .i64 V))
    have HG := hid (gb_own (gb_own (gb_own (gb_own (gb_trans (gb_alloc (gb_alloc (gb_refl w none) (.cells #[.int .i64 op, .int .i64 t, .int .i64 f, .int .i64 k] 46)) (.cells #[.int .i64 0, .int .i64 0, .int .i64 0, .int .i64 0] 46)) G.out) (Nat.le_succ w.heap.size) 0 (.int .i64 10)) (Nat.le_succ w.heap.size) 1 (.int .i64 0)) (Nat.le_succ w.heap.size) 2 (.int .i64 0)) (Nat.le_succ w.heap.size) 3 (.int .i64 V))
    clear hH hg B G
    go_wp2_with fail
    have hB := HB.out
    have hG := HG.out
    simp only [Nat.succ_eq_add_one] at hB hG
    clear HB HG
    generalize ((((w1.setCell ⟨w.heap.size + 1, 0, none⟩ (.int .i64 10)).setCell ⟨w.heap.size + 1, 1, none⟩ (.int .i64 0)).setCell ⟨w.heap.size + 1, 2, none⟩ (.int .i64 0)).setCell ⟨w.heap.size + 1, 3, none⟩ (.int .i64 V)) = W at *
    have d0 := hB.cell 0
    have d1 := hB.cell 1
    have d2 := hB.cell 2
    have d3 := hB.cell 3
    simp at d0 d1 d2 d3
    refine bodyPost_ret (v := .agg (inCells X)) (by rw [h.out]; simp [results, Try.results103, go_sem, inCells, d0, d1, d2, d3]) rfl ⟨rfl, hG⟩
end Go.Proofs.Ytldongbimhngfaa
/- A list of what is kept: the program's walks. -/
namespace Go.Proofs.Ytldongbimhngfaa
open Go.RowKit
set_option linter.unusedVariables false
set_option linter.unusedSimpArgs false

/-- the places, as they lie in memory -/
def plsL (keep : List Bool) (n : Nat) : List Int := (List.range n).map fun i => ((Sc.pl keep i : Nat) : Int)
theorem plsL_len (keep : List Bool) (n : Nat) : (plsL keep n).length = n := by simp [plsL]
theorem plsL_succ (keep : List Bool) (n : Nat) : plsL keep (n + 1) = plsL keep n ++ [((Sc.pl keep n : Nat) : Int)] := by simp [plsL, List.range_succ]
theorem plsL_at (keep : List Bool) (n i : Nat) (h : i < n) : Sc.fAt (plsL keep n) i = ((Sc.pl keep i : Nat) : Int) := by
  unfold Sc.fAt plsL
  simp [h]
theorem own_boo {w : World} {base g n cap : Nat} {B : List Bool} (hn : n = B.length) (h : w.ownsRow base 4 1 (.slice (some ⟨g, 0, none⟩) n cap) n (B.map Value.bool)) (i : Nat) (hi : i < B.length) : w.cell? ⟨g, i, none⟩ = some (.bool (Sc.kp B i)) := by
  rw [h.cellAt i (by omega)]
  simp [hi, Sc.kp]
/-- the places in memory -/
def PlsAt (w : World) (pg n : Nat) (keep : List Bool) : Prop := ∀ i, i < n → w.cell? ⟨pg, i, none⟩ = some (.int .i64 ((Sc.pl keep i : Nat) : Int))
theorem pls_of {w : World} {base g n cap : Nat} {keep : List Bool} (h : w.ownsRow base 3 1 (.slice (some ⟨g, 0, none⟩) n cap) n ((plsL keep n).map (Value.int .i64))) : PlsAt w g n keep := by
  intro i hi
  rw [own_int (by rw [plsL_len]) h i (by rw [plsL_len]; exact hi), plsL_at _ _ _ hi]

set_option maxRecDepth 100000 in
set_option maxHeartbeats 4000000 in
theorem iBetween_any (w : World) (pg n pc : Nat) (keep : List Bool) (hk : keep.length = n) (hP : PlsAt w pg n keep) (i to : Nat) (h1 : i < to) (h2 : to < n) (hn : n ≤ 1024) :
    Calls Try.prog 123 #[.slice (some ⟨pg, 0, none⟩) n pc, .int .i64 i, .int .i64 to] w fun e w' => e = .returned (.int .i64 (Sc.btw keep i to)) ∧ w.grownBy w' none := by
  have c1 := hP i (by omega)
  have c2 := hP to h2
  have hv : Hid (Sc.btw keep i to = ((Sc.pl keep to : Nat) : Int) - ((Sc.pl keep i : Nat) : Int) - 1) := by
    unfold Hid Sc.btw; rw [if_pos ⟨h1, by omega⟩]
  have p1 : Sc.pl keep to ≤ 1024 := by have := pl_mono keep 0 to (by omega); simp only [Sc.pl] at this; omega
  have p2 : Sc.pl keep i ≤ 1024 := by have := pl_mono keep 0 i (by omega); simp only [Sc.pl] at this; omega
  have q1 : (i : Int) < (to : Int) := by omega
  have q2 : (to : Int) < (n : Int) := by omega
  have q3 : (i : Int) < (n : Int) := by omega
  generalize Sc.btw keep i to = V at *
  generalize Sc.pl keep to = A at *
  generalize Sc.pl keep i = B at *
  clear hP
  go_enter Try.func123, Try.ntmps123
  go_wp2_with fail
  go_region
  go_wp2_with fail
  go_ret
  rw [hv.out]
  exact ⟨rfl, gb_drew (gb_refl _ _)⟩
end Go.Proofs.Ytldongbimhngfaa
/- moved, placesOf: the program's walks. -/
namespace Go.Proofs.Ytldongbimhngfaa
open Go.RowKit
set_option linter.unusedVariables false
set_option linter.unusedSimpArgs false

theorem PlsAt.keep {w w' : World} {pg n : Nat} {keep : List Bool} (h : PlsAt w pg n keep) (hg : w.grownBy w' none) (hp : pg < w.heap.size) : PlsAt w' pg n keep := by
  intro i hi
  rw [← h i hi]
  have := hg.block pg hp (by simp)
  unfold World.cell?
  simp [this]

set_option maxRecDepth 100000 in
set_option maxHeartbeats 4000000 in
theorem iMoved_any (w : World) (pg n pc : Nat) (keep : List Bool) (hk : keep.length = n) (hP : PlsAt w pg n keep) (hpw : pg < w.heap.size) (i : Nat) (x : Sc.In) (hx : InRng x) (hin : ∀ to ∈ Sc.tos i x, to < n) (hn : n ≤ 1024) :
    Calls Try.prog 113 #[.agg (inCells x), .int .i64 i, .slice (some ⟨pg, 0, none⟩) n pc] w fun e w' => e = .returned (.agg (inCells (Sc.moved keep i x))) ∧ w.grownBy w' none := by
  have hB := hid (fun (w : World) (hP : PlsAt w pg n keep) (to : Nat) (h1 : i < to) (h2 : to < n) => iBetween_any w pg n pc keep hk hP i to h1 h2 hn)
  have hT := hid (fun w => mIsTest_any w x.op)
  have m1 : Hid (x.op = 10 → Sc.moved keep i x = { x with k := Sc.btw keep i (i + 1 + x.k.toNat) }) := by
    intro h; unfold Sc.moved; rw [if_pos h]
  have m2 : Hid (x.op ≠ 10 → Sc.isTest x.op = true → Sc.moved keep i x = { x with t := Sc.btw keep i (i + 1 + x.t.toNat), f := Sc.btw keep i (i + 1 + x.f.toNat) }) := by
    intro h h2; unfold Sc.moved; rw [if_neg h, if_pos h2]
  have m3 : Hid (x.op ≠ 10 → Sc.isTest x.op = false → Sc.moved keep i x = x) := by
    intro h h2; unfold Sc.moved; rw [if_neg h, if_neg (by simp [h2])]
  have htos : Hid (Sc.tos i x = if Sc.isTest x.op = true then [i + 1 + x.f.toNat, i + 1 + x.t.toNat] else if x.op = 10 then [i + 1 + x.k.toNat] else if x.op = 15 ∨ x.op = 16 then [] else [i + 1]) := rfl
  rw [htos.out] at hin
  clear htos
  have HP := hid hP
  clear hP
  generalize Sc.moved keep i x = X at *
  obtain ⟨op, t, f, k⟩ := x
  obtain ⟨x1, x2, x3, x4, x5, x6, x7, x8⟩ := hx
  simp only at x1 x2 x3 x4 x5 x6 x7 x8 hT m1 m2 m3 hin
  obtain ⟨t, rfl⟩ := Int.eq_ofNat_of_zero_le x3
  obtain ⟨f, rfl⟩ := Int.eq_ofNat_of_zero_le x5
  obtain ⟨k, rfl⟩ := Int.eq_ofNat_of_zero_le x7
  simp only [Int.toNat_natCast] at hin m1 m2
  have hc : (inCells ⟨op, (t : Int), (f : Int), (k : Int)⟩) = #[Value.int .i64 op, .int .i64 (t : Int), .int .i64 (f : Int), .int .i64 (k : Int)] := rfl
  rw [hc]
  clear hc
  have G0 := hid (gb_alloc (gb_alloc (gb_refl w none) (.cells #[.int .i64 op, .int .i64 t, .int .i64 f, .int .i64 k] 46)) (.cells #[.int .i64 0, .int .i64 0, .int .i64 0, .int .i64 0] 46))
  have B1 := hid ((Blk.new w 46 #[.int .i64 op, .int .i64 t, .int .i64 f, .int .i64 k]).alloc (.cells #[.int .i64 0, .int .i64 0, .int .i64 0, .int .i64 0] 46))
  have B2 := hid (Blk.new (w.alloc (.cells #[.int .i64 op, .int .i64 t, .int .i64 f, .int .i64 k] 46)) 46 #[.int .i64 0, .int .i64 0, .int .i64 0, .int .i64 0])
  have z0 : (w.alloc (.cells #[.int .i64 op, .int .i64 t, .int .i64 f, .int .i64 k] 46)).heap.size = w.heap.size + 1 := by simp
  rw [z0] at B2
  clear z0
  by_cases h10 : op = 10
  · have hX := hid (m1.out h10)
    subst h10
    have hi : i + 1 + k < n := hin _ (by simp [Sc.isTest])
    have hC := hid (hB.out _ (HP.out.keep G0.out hpw) (i + 1 + k) (lt_add1 _ _) hi)
    have e1 : ((i + 1 + k : Nat) : Int) = (i : Int) + 1 + (k : Int) := by omega
    rw [e1] at hC
    have hnt : Sc.isTest 10 = false := rfl
    rw [hnt] at hT
    clear m1 m2 m3 hin hB HP hnt
    generalize Sc.btw keep i (i + 1 + k) = V at *
    go_enter Try.func113, Try.ntmps113
    go_wp2_with fail
    refine hC.out.mono ?_
    rintro e w1 ⟨rfl, hg⟩
    have b := B1.out.keep hg (by simp)
    have c0 := b.cell 0
    have c1 := b.cell 1
    have c2 := b.cell 2
    have c3 := b.cell 3
    have fz := b.fz
    have d := B2.out.keep hg (by simp)
    have hlt := b.lt
    have hlt2 := d.lt
    have D1 := hid (d.other (c := w.heap.size) (by omega) 3 (.int .i64 V))
    have D0 := hid (b.set 3 (.int .i64 V))
    have G1 := hid (gb_own (gb_trans G0.out hg) (Nat.le_refl _) 3 (.int .i64 V))
    simp at c0 c1 c2 c3
    clear hC b d hg B1 B2 G0
    go_wp2_with fail
    generalize w1.setCell ⟨w.heap.size, 3, none⟩ (.int .i64 V) = W at *
    have b := D0.out
    have d := D1.out
    clear D0 D1 c0 c1 c2 c3 fz
    have c0 := b.cell 0
    have c1 := b.cell 1
    have c2 := b.cell 2
    have c3 := b.cell 3
    have y0 := d.cell 0
    have y1 := d.cell 1
    have y2 := d.cell 2
    have y3 := d.cell 3
    have fz := d.fz
    simp at c0 c1 c2 c3 y0 y1 y2 y3
    have D2 := hid ((((d.set 0 (.int .i64 10)).set 1 (.int .i64 t)).set 2 (.int .i64 f)).set 3 (.int .i64 V))
    have G2 := hid (gb_own (gb_own (gb_own (gb_own G1.out (Nat.le_succ w.heap.size) 0 (.int .i64 10)) (Nat.le_succ w.heap.size) 1 (.int .i64 t)) (Nat.le_succ w.heap.size) 2 (.int .i64 f)) (Nat.le_succ w.heap.size) 3 (.int .i64 V))
    clear b d G1
    refine (hT.out _).mono ?_
    rintro e w2 ⟨rfl, rfl⟩
    clear hT
    go_wp2_with fail
    have hB := D2.out
    have hG := G2.out
    simp only [Nat.succ_eq_add_one] at hB hG
    clear D2 G2
    generalize ((((w2.setCell ⟨w.heap.size + 1, 0, none⟩ (.int .i64 10)).setCell ⟨w.heap.size + 1, 1, none⟩ (.int .i64 t)).setCell ⟨w.heap.size + 1, 2, none⟩ (.int .i64 f)).setCell ⟨w.heap.size + 1, 3, none⟩ (.int .i64 V)) = W2 at *
    have d0 := hB.cell 0
    have d1 := hB.cell 1
    have d2 := hB.cell 2
    have d3 := hB.cell 3
    simp at d0 d1 d2 d3
    refine bodyPost_ret (v := .agg (inCells X)) (by rw [hX.out]; simp [results, Try.results113, go_sem, inCells, d0, d1, d2, d3]) rfl ⟨rfl, hG⟩
  · have e10 : (op == 10) = false := by simp [h10]
    rw [if_neg h10] at hin
    cases ht : Sc.isTest op
    · have hX := hid (m3.out h10 ht)
      rw [ht] at hT
      clear m1 m2 m3 hin hB HP B1 B2 h10 ht
      go_enter Try.func113, Try.ntmps113
      go_wp2_with fail
      refine (hT.out _).mono ?_
      rintro e w2 ⟨rfl, rfl⟩
      clear hT
      go_wp2_with fail
      refine bodyPost_ret (v := .agg (inCells X)) (by rw [hX.out]; simp [results, Try.results113, go_sem, inCells]) rfl ⟨rfl, ?_⟩
      exact gb_alloc (gb_alloc (gb_refl _ _) _) _
    · have hX := hid (m2.out h10 ht)
      rw [ht] at hT
      rw [if_pos ht] at hin
      have hi1 : i + 1 + t < n := hin _ (by simp)
      have hi2 : i + 1 + f < n := hin _ (by simp)
      have hC := hid (hB.out _ (HP.out.keep G0.out hpw) (i + 1 + t) (lt_add1 _ _) hi1)
      have e1 : ((i + 1 + t : Nat) : Int) = (i : Int) + 1 + (t : Int) := by omega
      have e2 : ((i + 1 + f : Nat) : Int) = (i : Int) + 1 + (f : Int) := by omega
      rw [e1] at hC
      clear m1 m2 m3 hin h10 ht
      have HB2 := hid (fun W hP => hB.out W hP (i + 1 + f) (lt_add1 _ _) hi2)
      rw [e2] at HB2
      clear hB
      generalize Sc.btw keep i (i + 1 + t) = V at *
      generalize Sc.btw keep i (i + 1 + f) = V2 at *
      go_enter Try.func113, Try.ntmps113
      go_wp2_with fail
      refine (hT.out _).mono ?_
      rintro e w1 ⟨rfl, rfl⟩
      clear hT
      go_wp2_with fail
      refine hC.out.mono ?_
      rintro e w1 ⟨rfl, hg⟩
      have b := B1.out.keep hg (by simp)
      have c0 := b.cell 0
      have c1 := b.cell 1
      have c2 := b.cell 2
      have c3 := b.cell 3
      have fz := b.fz
      have d := B2.out.keep hg (by simp)
      have hlt := b.lt
      have hlt2 := d.lt
      have D1 := hid (d.other (c := w.heap.size) (by omega) 1 (.int .i64 V))
      have D0 := hid (b.set 1 (.int .i64 V))
      have G1 := hid (gb_own (gb_trans G0.out hg) (Nat.le_refl _) 1 (.int .i64 V))
      simp at c0 c1 c2 c3
      clear hC b d hg B1 B2 G0
      go_wp2_with fail
      generalize w1.setCell ⟨w.heap.size, 1, none⟩ (.int .i64 V) = W at *
      have b := D0.out
      have d := D1.out
      clear D0 D1 c0 c1 c2 c3 fz
      have c0 := b.cell 0
      have c1 := b.cell 1
      have c2 := b.cell 2
      have c3 := b.cell 3
      have fz := b.fz
      simp at c0 c1 c2 c3
      have hC := hid (HB2.out W (HP.out.keep G1.out hpw))
      have B1 := hid b
      have B2 := hid d
      clear b d HB2
      try go_wp2_with fail
      refine hC.out.mono ?_
      rintro e w2 ⟨rfl, hg⟩
      clear c0 c1 c2 c3 fz hlt hlt2
      have b := B1.out.keep hg (by simp)
      have d := B2.out.keep hg (by simp)
      have c0 := b.cell 0
      have c1 := b.cell 1
      have c2 := b.cell 2
      have c3 := b.cell 3
      have fz := b.fz
      have hlt := b.lt
      have hlt2 := d.lt
      simp at c0 c1 c2 c3
      have y0 := d.cell 0
      have y1 := d.cell 1
      have y2 := d.cell 2
      have y3 := d.cell 3
      have fz2 := d.fz
      simp at y0 y1 y2 y3
      have D1 := hid (d.other (c := w.heap.size) (by omega) 2 (.int .i64 V2))
      have G2 := hid (gb_own (gb_trans G1.out hg) (Nat.le_refl _) 2 (.int .i64 V2))
      have D2 := hid ((((D1.out.set 0 (.int .i64 op)).set 1 (.int .i64 V)).set 2 (.int .i64 V2)).set 3 (.int .i64 k))
      have G3 := hid (gb_own (gb_own (gb_own (gb_own G2.out (Nat.le_succ w.heap.size) 0 (.int .i64 op)) (Nat.le_succ w.heap.size) 1 (.int .i64 V)) (Nat.le_succ w.heap.size) 2 (.int .i64 V2)) (Nat.le_succ w.heap.size) 3 (.int .i64 k))
      clear hC b d hg B1 B2 G1 D1 G2
      go_wp2_with fail
      have hB := D2.out
      have hG := G3.out
      simp only [Nat.succ_eq_add_one] at hB hG
      clear D2 G3
      generalize (((((w2.setCell ⟨w.heap.size, 2, none⟩ (.int .i64 V2)).setCell ⟨w.heap.size + 1, 0, none⟩ (.int .i64 op)).setCell ⟨w.heap.size + 1, 1, none⟩ (.int .i64 V)).setCell ⟨w.heap.size + 1, 2, none⟩ (.int .i64 V2)).setCell ⟨w.heap.size + 1, 3, none⟩ (.int .i64 k)) = W2 at *
      have d0 := hB.cell 0
      have d1 := hB.cell 1
      have d2 := hB.cell 2
      have d3 := hB.cell 3
      simp at d0 d1 d2 d3
      refine bodyPost_ret (v := .agg (inCells X)) (by rw [hX.out]; simp [results, Try.results113, go_sem, inCells, d0, d1, d2, d3]) rfl ⟨rfl, hG⟩
end Go.Proofs.Ytldongbimhngfaa
/- placesOf, only, factsOf: the program's walks. -/
namespace Go.Proofs.Ytldongbimhngfaa
open Go.RowKit
set_option linter.unusedVariables false
set_option linter.unusedSimpArgs false

set_option maxRecDepth 100000 in
set_option maxHeartbeats 4000000 in
theorem iPlaces_any (w : World) (kbase bg bc n : Nat) (keep : List Bool) (hk : keep.length = n) (hn : n ≤ 1024) (hK : w.ownsRow kbase 4 1 (.slice (some ⟨bg, 0, none⟩) n bc) n (keep.map Value.bool)) :
    Calls Try.prog 112 #[.slice (some ⟨bg, 0, none⟩) n bc] w fun e w' => e = .returned (.slice (some ⟨w.heap.size, 0, none⟩) n n) ∧ w.grownBy w' none ∧ w'.ownsRow w.heap.size 3 1 (.slice (some ⟨w.heap.size, 0, none⟩) n n) n ((plsL keep n).map (Value.int .i64)) := by
  obtain ⟨iI, iI_e, iI_z, iI_s, iI_b⟩ := imIt_ex
  have iI_eq := hid iI_e
  have HK := hid hK
  clear iI_e hK
  go_enter Try.func112, Try.ntmps112
  go_wp2_with (first
    | (at_make; refine wpList_make_own _ rfl _ _ 22 rfl w.heap.size 3 iI (.int .i64 0) 1 imIts iI_eq.out iI_z iI_s _ _ _ n rfl rfl (by first | rfl | omega) (by rw [iI_b]; omega) (by unfold maxLen; omega) (Nat.le_refl _) ?_)
    | fail)
  intro w1 hown1 hgrow1
  have HG1 := hid hgrow1
  clear hgrow1
  go_wp2_with fail
  go_loopw [3, 4, 5] (fun v c i wr => ∃ (k : Nat), k ≤ n ∧ i = .int .i64 k ∧ c = .int .i64 ((Sc.pl keep k : Nat) : Int) ∧ v = .slice (some ⟨w.heap.size, 0, none⟩) k n ∧ w.grownBy wr none ∧ wr.ownsRow w.heap.size 3 1 (.slice (some ⟨w.heap.size, 0, none⟩) k n) k ((plsL keep k).map (Value.int .i64))) (fun v c i wr => n - (intOf i).toNat)
  case atStart => exact ⟨0, Nat.zero_le _, rfl, rfl, rfl, HG1.out, hown1⟩
  case round =>
    obtain ⟨k, hkn, rfl, rfl, rfl, hg, hown⟩ := hrel
    have HG := hid hg
    have hz := hg.size
    have hwl := (hown.lt w.heap.size rfl).2
    have hpl : Sc.pl keep k ≤ k := by have := pl_mono keep 0 k (by omega); simp only [Sc.pl] at this; omega
    clear hown1 HG1
    by_cases hlt : k < n
    · have hlt' : (k : Int) < (n : Int) := by omega
      have hsn : Hid ((plsL keep (k + 1)).map (Value.int .i64) = (plsL keep k).map (Value.int .i64) ++ [.int .i64 ((Sc.pl keep k : Nat) : Int)]) := by unfold Hid; rw [plsL_succ]; simp
      have hps : Hid (Sc.pl keep (k + 1) = Sc.pl keep k + (if Sc.kp keep k = true then 1 else 0)) := rfl
      have HKr := hid (kept_none HK.out hg)
      clear hg
      generalize Sc.pl keep k = P at *
      go_wp2_with (first
        | (at_builtin; refine wpList_append_fits _ rfl _ _ 22 rfl w.heap.size 3 iI 1 imIts iI_eq.out iI_s w.heap.size k n ((plsL keep k).map (Value.int .i64)) rfl (hown.alloc _) ⟨wr.heap.size, 0, none⟩ 1 1 [.int .i64 (P : Int)] rfl rfl ?c1 ?c2 (by omega) ?_)
        | fail)
      case c1 => exact new_cells _ 3 #[.int .i64 (P : Int)] _ rfl
      case c2 => intro u hu; simp at hu; subst hu; rfl
      intro w2 hown2 hgrow2
      have Ho2 := hid hown2
      have hap := owns_apart (HKr.out.alloc (.cells #[.int .i64 (P : Int)] 3)) (hown.alloc (.cells #[.int .i64 (P : Int)] 3)) (by decide)
      have HK2 := (HKr.out.alloc (.cells #[.int .i64 (P : Int)] 3)).kept hgrow2 hap
      have c1 := own_boo hk.symm HK2 k (by omega)
      have Hg2 := hid (gb_grow (gb_alloc HG.out (.cells #[.int .i64 (P : Int)] 3)) hgrow2 (fun j hj => by cases hj; exact Nat.le_refl _))
      clear hown2 hgrow2 hown hap HK2 HKr
      cases hb : Sc.kp keep k
      · rw [hb] at hps c1
        go_wp2_with fail
        go_roundw
        case rel =>
          refine ⟨k + 1, by omega, by go_num, ?_, rfl, Hg2.out, ?_⟩
          · rw [hps.out]; rfl
          · rw [hsn.out]; exact Ho2.out
        case measure => simp [intOf]; omega
      · rw [hb] at hps c1
        go_wp2_with fail
        go_roundw
        case rel =>
          refine ⟨k + 1, by omega, by go_num, ?_, rfl, Hg2.out, ?_⟩
          · rw [hps.out]; rfl
          · rw [hsn.out]; exact Ho2.out
        case measure => simp [intOf]; omega
    · have hkk : k = n := by omega
      subst hkk
      have Ho := hid hown
      clear hown hg
      go_wp2_with fail
      go_ret
      exact ⟨rfl, HG.out, Ho.out⟩
theorem rep_set (k n : Nat) (h : k < n) : (List.replicate k (-2 : Int) ++ List.replicate (n - k) 0).set k (-2) = List.replicate (k + 1) (-2) ++ List.replicate (n - (k + 1)) 0 := by
  have e : n - k = (n - (k + 1)) + 1 := by omega
  rw [e, List.replicate_succ, List.replicate_succ', List.set_append]
  simp
set_option maxRecDepth 100000 in
set_option maxHeartbeats 4000000 in
theorem iFactsOf_any (w : World) (n : Nat) (p : Sc.Ps) (hp : 0 < n) (hn : n ≤ 1024) :
    Calls Try.prog 97 #[.int .i64 n, .int .i64 p.first] w fun e w' => e = .returned (.agg #[.slice (some ⟨w.heap.size + 1, 0, none⟩) n n]) ∧ w.grownBy w' none ∧ w'.ownsRow w.heap.size 3 1 (.slice (some ⟨w.heap.size + 1, 0, none⟩) n n) n ((Sc.fac0 p n).map (Value.int .i64)) ∧ w.heap.size + 1 < w'.heap.size := by
  obtain ⟨iI, iI_e, iI_z, iI_s, iI_b⟩ := imIt_ex
  have iI_eq := hid iI_e
  clear iI_e
  have hf0 : Hid (Sc.fac0 p n = (List.replicate n (-2)).set 0 p.first) := rfl
  generalize p.first = F at *
  generalize Sc.fac0 p n = A0 at *
  have B0 := hid (Blk.new w 135 #[.slice none 0 0])
  have G0 := hid (gb_alloc (gb_refl w none) (.cells #[.slice none 0 0] 135))
  go_enter Try.func97, Try.ntmps97
  go_wp2_with (first
    | (at_make; refine wpList_make_full _ rfl _ _ 22 rfl w.heap.size 3 iI (.int .i64 0) 1 imIts iI_eq.out iI_z iI_s _ _ _ _ n rfl rfl (by first | rfl | omega) (by first | rfl | omega) (by rw [iI_b]; omega) (by unfold maxLen; omega) (by simp) ?_)
    | fail)
  intro w1 hown1 hgrow1
  have e1 : (madeCells #[Value.int .i64 0] n).toList = (List.replicate 0 (-2 : Int) ++ List.replicate (n - 0) 0).map (Value.int .i64) := by
    rw [toList_madeCells_one]; simp
  have z0 : (w.alloc (.cells #[.slice none 0 0] 135)).heap.size = w.heap.size + 1 := by simp
  rw [e1] at hown1
  have B1 := hid (B0.out.keep hgrow1 (by simp))
  have HG1 := hid (gb_trans G0.out hgrow1)
  have O1 := hid hown1
  clear hgrow1 hown1 e1 z0 B0 G0
  go_wp2_with fail
  go_loopw [6] (fun i wr => ∃ (k : Nat), k ≤ n ∧ i = .int .i64 k ∧ w.grownBy wr none ∧ Blk wr w.heap.size 135 #[.slice none 0 0] ∧ wr.ownsRow w.heap.size 3 1 (.slice (some ⟨w.heap.size + 1, 0, none⟩) n n) n ((List.replicate k (-2 : Int) ++ List.replicate (n - k) 0).map (Value.int .i64))) (fun i wr => n - (intOf i).toNat)
  case atStart => exact ⟨0, Nat.zero_le _, rfl, HG1.out, B1.out, O1.out⟩
  case round =>
    obtain ⟨k, hkn, rfl, hg, hb, hown⟩ := hrel
    have HG := hid hg
    have HB := hid hb
    have HO := hid hown
    clear O1 HG1 B1
    by_cases hlt : k < n
    · have hlt' : (k : Int) < (n : Int) := by omega
      have c1 := own_int (by simp; omega) hown k (by simp; omega)
      have cf := hown.frozenAt k
      clear hg hb hown
      generalize Sc.fAt (List.replicate k (-2 : Int) ++ List.replicate (n - k) 0) k = V at *
      go_wp2_with fail
      go_roundw
      case rel =>
        refine ⟨k + 1, by omega, by go_num, gb_own HG.out (Nat.le_succ _) _ _, HB.out.other (by omega) _ _, ?_⟩
        have := own_iset HO.out k (-2)
        rw [rep_set k n hlt] at this
        exact this
      case measure => simp [intOf]; omega
    · have hkk : k = n := by omega
      subst hkk
      have e2 : List.replicate k (-2 : Int) ++ List.replicate (k - k) 0 = List.replicate k (-2) := by simp
      rw [e2] at hown
      have HO := hid hown
      have c1 := own_int (by simp) hown 0 (by simp; omega)
      have cf := hown.frozenAt 0
      have hbc := hb.cell 0
      have hbf := hb.fz
      have hbl := hb.lt
      have hol := (hown.lt (w.heap.size + 1) rfl).2
      simp at hbc
      have hp' : (0 : Int) < (k : Int) := by omega
      clear hg hb hown
      have D1 := hid (own_iset HO.out 0 F)
      have B2 := hid (HB.out.other (c := w.heap.size + 1) (by omega) 0 (.int .i64 F))
      have B3 := hid (B2.out.set 0 (.slice (some ⟨w.heap.size + 1, 0, none⟩) k k))
      have D2 := hid (owns_set D1.out (b := w.heap.size) (by simp [Value.ownBlock]) 0 (.slice (some ⟨w.heap.size + 1, 0, none⟩) k k))
      have G2 := hid (gb_own (gb_own HG.out (Nat.le_succ _) 0 (.int .i64 F)) (Nat.le_refl _) 0 (.slice (some ⟨w.heap.size + 1, 0, none⟩) k k))
      clear D1 B2 HO HB HG
      go_wp2_with fail
      have hB := B3.out
      have hG := G2.out
      have hO := D2.out
      simp only [Nat.succ_eq_add_one] at hB hG hO
      clear B3 G2 D2
      rw [← hf0.out] at hO
      generalize ((wr.setCell ⟨w.heap.size + 1, 0, none⟩ (.int .i64 F)).setCell ⟨w.heap.size, 0, none⟩ (.slice (some ⟨w.heap.size + 1, 0, none⟩) k k)) = W at *
      have d0 := hB.cell 0
      simp at d0
      have hol2 := (hO.lt (w.heap.size + 1) rfl).2
      refine bodyPost_ret (v := .agg #[.slice (some ⟨w.heap.size + 1, 0, none⟩) k k]) (by simp [results, Try.results97, go_sem, d0]) rfl ⟨rfl, hG, hO, hol2⟩
end Go.Proofs.Ytldongbimhngfaa
/- only: the program's walk. -/
namespace Go.Proofs.Ytldongbimhngfaa
open Go.RowKit
set_option linter.unusedVariables false
set_option linter.unusedSimpArgs false

set_option maxRecDepth 100000 in
set_option maxHeartbeats 8000000 in
theorem iOnly_any (w : World) (sa : Option Addr) (sc : Nat) (L : List Sc.In) (hI : InsAt w sa L) (hs : SoundList L) (kbase bg bc : Nat) (keep : List Bool) (hk : keep.length = L.length) (hK : w.ownsRow kbase 4 1 (.slice (some ⟨bg, 0, none⟩) L.length bc) L.length (keep.map Value.bool)) :
    Calls Try.prog 100 #[.slice sa L.length sc, .slice (some ⟨bg, 0, none⟩) L.length bc] w fun e w' => ∃ v, e = .returned v ∧ w.grownBy w' none ∧ w'.ownsRow w.heap.size 46 4 v (Sc.only L keep).length (insCells (Sc.only L keep)) := by
  obtain ⟨iI, iI_e, iI_z, iI_s, iI_b⟩ := iIn_ex
  have iI_eq := hid iI_e
  have hn := hs.1.1
  have HI := hid hI
  have HK := hid hK
  have HS := hid hs
  have hP := hid (iPlaces_any w kbase bg bc L.length keep hk hn hK)
  clear iI_e hI hK hs
  go_enter Try.func100, Try.ntmps100
  go_wp2_with fail
  refine hP.out.mono ?_
  rintro e w1 ⟨rfl, hg1, hp1⟩
  have PL := hid (pls_of hp1)
  have hpw := (hp1.lt w.heap.size rfl).2
  have G1 := hid hg1
  have I1 := hid (HI.out.keep hg1)
  have K1 := hid (kept_none HK.out hg1)
  have hz1 := hg1.size
  clear hP hp1 hg1 HI HK
  go_wp2_with (first
    | (at_make; refine wpList_make_own _ rfl _ _ 39 rfl w.heap.size 46 iI zIn 4 uIn iI_eq.out iI_z iI_s _ _ _ L.length rfl rfl (by first | rfl | omega) (by rw [iI_b]; omega) (by unfold maxLen; omega) (by omega) ?_)
    | fail)
  intro w2 hown2 hgrow2
  have HG2 := hid hgrow2
  have O2 := hid hown2
  clear hgrow2 hown2
  go_wp2_with fail
  go_loopw [6, 7] (fun v i wr => ∃ (k : Nat), k ≤ L.length ∧ i = .int .i64 k ∧ v = .slice (some ⟨w1.heap.size, 0, none⟩) (Sc.pl keep k) L.length ∧ w1.grownBy wr none ∧ wr.ownsRow w.heap.size 46 4 (.slice (some ⟨w1.heap.size, 0, none⟩) (Sc.pl keep k) L.length) (Sc.pl keep k) (insCells (Sc.onlyN L keep k))) (fun v i wr => L.length - (intOf i).toNat)
  case atStart => exact ⟨0, Nat.zero_le _, rfl, rfl, HG2.out, O2.out⟩
  case round =>
    obtain ⟨k, hkn, rfl, rfl, hg, hown⟩ := hrel
    have HG := hid hg
    have HO := hid hown
    have hz := hg.size
    have hwl := (hown.lt w1.heap.size rfl).2
    have hpl : Sc.pl keep k ≤ k := by have := pl_mono keep 0 k (by omega); simp only [Sc.pl] at this; omega
    clear O2 HG2
    by_cases hlt : k < L.length
    · have hlt' : (k : Int) < (L.length : Int) := by omega
      obtain ⟨b, off, rfl, hb, hcell⟩ := (I1.out.keep hg) k hlt
      have c1 := own_boo hk.symm (kept_none K1.out hg) k (by omega)
      have t0 := hcell 0 (by omega)
      have t1 := hcell 1 (by omega)
      have t2 := hcell 2 (by omega)
      have t3 := hcell 3 (by omega)
      have hM := hid (iMoved_any wr w.heap.size L.length L.length keep hk (PL.out.keep hg hpw) (by omega) k L[k] (HS.out.1.2 k hlt) (HS.out.tos_in k hlt) hn)
      have hsn : Hid (Sc.onlyN L keep (k + 1) = Sc.onlyN L keep k ++ (if Sc.kp keep k = true then [Sc.moved keep k L[k]] else [])) := by
        unfold Hid; simp [Sc.onlyN, hlt]
      have hps : Hid (Sc.pl keep (k + 1) = Sc.pl keep k + (if Sc.kp keep k = true then 1 else 0)) := rfl
      clear hg hcell hown
      cases hkb : Sc.kp keep k
      · rw [hkb] at c1 hsn hps
        clear hM
        go_wp2_with fail
        go_roundw
        case rel =>
          have e1 : Sc.onlyN L keep (k + 1) = Sc.onlyN L keep k := by rw [hsn.out]; simp
          have e2 : Sc.pl keep (k + 1) = Sc.pl keep k := by rw [hps.out]; simp
          refine ⟨k + 1, by omega, by go_num, by rw [e2], HG.out, ?_⟩
          rw [e1, e2]; exact HO.out
        case measure => simp [intOf]; omega
      · rw [hkb] at c1 hsn hps
        generalize Sc.moved keep k L[k] = Y at *
        generalize L[k] = X at *
        obtain ⟨op, t, f, kk⟩ := X
        obtain ⟨yo, yt, yf, yk⟩ := Y
        simp only [inCells] at hM
        simp [inCells] at t0 t1 t2 t3
        go_wp2_with fail
        refine hM.out.mono ?_
        rintro e w3 ⟨rfl, hg3⟩
        have G3 := hid (gb_trans HG.out hg3)
        have o3 := kept_none HO.out hg3
        have hz3 := hg3.size
        clear hM hg3 HO
        generalize hPL : Sc.pl keep k = P at *
        go_wp2_with (first
          | (at_builtin; refine wpList_append_fits _ rfl _ _ 39 rfl w.heap.size 46 iI 4 uIn iI_eq.out iI_s w1.heap.size P L.length (insCells (Sc.onlyN L keep k)) rfl ((o3.alloc _).alloc _) ⟨w3.heap.size + 1, 0, none⟩ 1 1 [.int .i64 yo, .int .i64 yt, .int .i64 yf, .int .i64 yk] rfl rfl ?c1 ?c2 (by omega) ?_)
          | fail)
        case c1 => exact new_cells _ 46 #[.int .i64 yo, .int .i64 yt, .int .i64 yf, .int .i64 yk] _ (by simp)
        case c2 => intro u hu; simp at hu; rcases hu with rfl | rfl | rfl | rfl <;> rfl
        intro w4 hown4 hgrow4
        have Ho4 := hid hown4
        have Hg4 := hid (gb_grow (gb_alloc (gb_alloc G3.out (.cells #[.int .i64 yo, .int .i64 yt, .int .i64 yf, .int .i64 yk] 46)) (.cells #[.int .i64 yo, .int .i64 yt, .int .i64 yf, .int .i64 yk] 46)) hgrow4 (fun j hj => by cases hj; exact Nat.le_refl _))
        clear hown4 hgrow4 o3
        go_wp2_with fail
        go_roundw
        case rel =>
          have e1 : Sc.onlyN L keep (k + 1) = Sc.onlyN L keep k ++ [⟨yo, yt, yf, yk⟩] := by rw [hsn.out]; simp
          have e2 : Sc.pl keep (k + 1) = P + 1 := by rw [hps.out]; simp
          refine ⟨k + 1, by omega, by go_num, by rw [e2], Hg4.out, ?_⟩
          rw [e1, e2, insCells_snoc]; exact Ho4.out
        case measure => simp [intOf]; omega
    · have hkk : k = L.length := by omega
      have hon : Hid (Sc.onlyN L keep k = Sc.only L keep) := by unfold Hid Sc.only; rw [hkk]
      have hle := hid (only_len L keep)
      subst hkk
      clear hown hg
      go_wp2_with fail
      go_ret
      refine ⟨_, rfl, gb_trans G1.out HG.out, ?_⟩
      rw [hle.out, ← hon.out]
      exact HO.out
end Go.Proofs.Ytldongbimhngfaa
