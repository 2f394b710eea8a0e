import Derived.Test.YtldongbimhngfaaGIm
import Derived.Test.YtldongbimhngfaaGIwa
import Derived.Deep.RegionWith
import Derived.Test.YtldongbimhngfaaGIwb
/- The program's codes that are built from their end on: First, Hop, Add, AddGo. -/
namespace Go.Proofs.Ytldongbimhngfaa
open Go.RowKit
set_option linter.unusedVariables false
set_option linter.unusedSimpArgs false

/-- append onto a row of one's own, as one step of a region that draws -/
theorem stepAppOwn {P : Program} {ops : Array Oper} {o : Oper} {a : Act} {w : World} {K : Act → World → Prop} {Q : Exit → Act → World → Prop} {E : Prop}
    (hg : o.guard = none) (s x : Operand) (t : TypeId) (hop : o.op = Op.call { callee := Callee.builtin Builtin.append, args := #[s, x], argTypes := #[t, t] })
    (base : Nat) (e : TypeId) (i : TypeInfo) (z : Value) (size bytes : Nat) (h1 : P.underlying t = some (.slice e)) (h2 : P.info? e = some i) (h3 : i.zero = some z) (h4 : i.size = size) (h5 : i.bytes = bytes) (h6 : z.cells.size = size) (h7 : 0 < size)
    (v : Value) (n : Nat) (xs : List Value) (hs : a.eval s = v) (hown : w.ownsRow base e size v n xs)
    (ad : Addr) (m c : Nat) (news : List Value) (hx : a.eval x = .slice (some ad) m c) (hn : news.length = m * size) (hc : ∀ j u, news[j]? = some u → w.cell? (ad.add j) = some u) (h1c : ∀ u ∈ news, u.oneCell' = true)
    (b1 : n + m ≤ maxLen) (b2 : (n + m) * bytes ≤ 140737488355328) (hbase : base ≤ w.heap.size)
    (hK : ∀ v' w', w'.ownsRow base e size v' (n + m) (xs ++ news) → w.grownBy w' v.ownBlock → K (a.put o.dst v') w') :
    if Region.wanted o (yielded ops a.tmps) = true then Oper.wp P o a w K Q else E := by
  have hw : Region.wanted o (yielded ops a.tmps) = true := by simp [Region.wanted, hg]
  rw [if_pos hw]
  obtain ⟨v', w', hrun, r1, r2, _⟩ := run_append_own (P := P) w base t o.type e i z size bytes h1 h2 h3 h4 h5 h6 h7 v n xs hown ad m c news hn hc h1c b1 b2 hbase
  unfold Oper.wp
  simp [execOp, hop, resolve, invoke, builtin, hs, hx, hrun, Result.andThen]
  exact hK v' w' r1 r2

/-- what is built, as it lies in memory: the first field of a block -/
structure CodeAt (w : World) (base bb : Nat) (T : TypeId) (R : List Value) (va : Option Addr) (vc : Nat) (N : List Sc.In) : Prop where
  blk : Blk w bb T ⟨.slice va N.length vc :: R⟩
  row : w.ownsRow base 46 4 (.slice va N.length vc) N.length (insCells N.reverse)
  ty : 46 ≠ T
theorem CodeAt.keep {w w' : World} {base bb : Nat} {T : TypeId} {R : List Value} {va : Option Addr} {vc : Nat} {N : List Sc.In} (h : CodeAt w base bb T R va vc N) (hg : w.grownBy w' none) : CodeAt w' base bb T R va vc N :=
  ⟨h.blk.keep hg (by simp), kept_none h.row hg, h.ty⟩
/-- behind an append and its store -/
theorem CodeAt.app {w w' : World} {base bb : Nat} {T : TypeId} {R : List Value} {va : Option Addr} {vc : Nat} {N : List Sc.In} (h : CodeAt w base bb T R va vc N) (x : Sc.In) (v' : Value)
    (hown : w'.ownsRow base 46 4 v' (N.length + 1) (insCells N.reverse ++ (inCells x).toList)) (hgrow : w.grownBy w' (Value.slice va N.length vc).ownBlock) :
    ∃ va' vc', v' = .slice va' (N.length + 1) vc' ∧ CodeAt (w'.setCell ⟨bb, 0, none⟩ v') base bb T R va' vc' (x :: N) := by
  obtain ⟨va', vc', rfl⟩ := owns_slice hown
  have hB := h.blk.keep hgrow (owns_blk h.row h.blk h.ty)
  refine ⟨va', vc', rfl, ?_, ?_, h.ty⟩
  · have := hB.set 0 (.slice va' (N.length + 1) vc')
    simpa using this
  · have := owns_set hown (b := bb) (fun e => owns_blk hown hB h.ty e.symm) 0 (.slice va' (N.length + 1) vc')
    have e : insCells (x :: N).reverse = insCells N.reverse ++ (inCells x).toList := by rw [List.reverse_cons, insCells_snoc]
    rw [e]
    exact this
theorem below_app {base bb : Nat} {w w' : World} {r : Option Nat} (hg : w.grownBy w' r) (hr : ∀ j, r = some j → base ≤ j) (hb : base ≤ bb) (hs : base ≤ w.heap.size) (v : Value) : Below base w (w'.setCell ⟨bb, 0, none⟩ v) := by
  refine ⟨hg.os, hg.tape, hg.output, ?_, fun k hk => ?_⟩
  · have := hg.size
    simp only [World.setCell, Array.size_modify]
    omega
  · rw [Below.heap_setCell _ _ _ _ (by simp; omega), hg.block k (by omega) (fun e => by have := hr k e.symm; omega)]
theorem below_of {base : Nat} {w w' : World} (h : w.grownBy w' none) (hb : base ≤ w.heap.size) : Below base w w' :=
  ⟨h.os, h.tape, h.output, h.size, fun k hk => h.block k (by omega) (by simp)⟩

/-- what a code's methods leave as it was: what lies below, and every block but the code's own that holds no instructions -/
structure KeptC (base bb : Nat) (w w' : World) : Prop where
  below : Below base w w'
  blk : ∀ k U cs, Blk w k U cs → k ≠ bb → 46 ≠ U → Blk w' k U cs
theorem KeptC.refl (base bb : Nat) (w : World) : KeptC base bb w w := ⟨Below.refl _ _, fun _ _ _ h _ _ => h⟩
theorem KeptC.trans {base bb : Nat} {a b c : World} (h : KeptC base bb a b) (k : KeptC base bb b c) : KeptC base bb a c :=
  ⟨h.below.trans k.below, fun i U cs z hi hU => k.blk i U cs (h.blk i U cs z hi hU) hi hU⟩
theorem KeptC.of {base bb : Nat} {w w' : World} (h : w.grownBy w' none) (hb : base ≤ w.heap.size) : KeptC base bb w w' :=
  ⟨below_of h hb, fun k U cs z _ _ => z.keep h (by simp)⟩
theorem KeptC.app {base bb : Nat} {w w' : World} {v : Value} {n : Nat} {xs : List Value} (hrow : w.ownsRow base 46 4 v n xs) (hg : w.grownBy w' v.ownBlock) (hb : base ≤ bb) (hs : base ≤ w.heap.size) (u : Value) : KeptC base bb w (w'.setCell ⟨bb, 0, none⟩ u) :=
  ⟨below_app hg (fun j hj => (hrow.lt j hj).1) hb hs u, fun k U cs z hk hU => (z.keep hg (owns_blk hrow z hU)).other hk.symm 0 u⟩

set_option maxRecDepth 100000 in
set_option maxHeartbeats 4000000 in
theorem bFirst_any (w : World) (base bb : Nat) (T : TypeId) (R : List Value) (va : Option Addr) (vc : Nat) (N : List Sc.In) (h : CodeAt w base bb T R va vc N) (hN : N.length ≤ 1024) :
    Calls Try.prog 86 #[.pointer (some ⟨bb, 0, none⟩)] w fun e w' => e = .returned (.int .i64 ((N.length : Int) - 1)) ∧ w' = w := by
  have c0 := h.blk.cell 0
  simp at c0
  clear h
  go_enter Try.func86, Try.ntmps86
  go_wp2_with fail
  go_ret
  exact ⟨rfl, rfl⟩
set_option maxRecDepth 100000 in
set_option maxHeartbeats 4000000 in
theorem bHop_any (w : World) (base bb : Nat) (T : TypeId) (R : List Value) (va : Option Addr) (vc : Nat) (N : List Sc.In) (h : CodeAt w base bb T R va vc N) (hN : N.length ≤ 1024) (to : Int) (h0 : 0 ≤ to) (h1 : to ≤ 1024) :
    Calls Try.prog 124 #[.pointer (some ⟨bb, 0, none⟩), .int .i64 to] w fun e w' => e = .returned (.int .i64 ((N.length : Int) - 1 - to)) ∧ w' = w := by
  have c0 := h.blk.cell 0
  simp at c0
  clear h
  go_enter Try.func124, Try.ntmps124
  go_wp2_with fail
  go_ret
  exact ⟨rfl, rfl⟩
/-- how a method of a code ends -/
def CEnd (w : World) (base bb : Nat) (T : TypeId) (R : List Value) (N' : List Sc.In) (e : Ending) (w' : World) : Prop :=
  e = .returned (.tuple #[]) ∧ KeptC base bb w w' ∧ ∃ va vc, CodeAt w' base bb T R va vc N'

set_option maxRecDepth 100000 in
set_option maxHeartbeats 8000000 in
theorem bAdd0_any (w : World) (base bb : Nat) (T : TypeId) (R : List Value) (va : Option Addr) (vc : Nat) (N : List Sc.In) (h : CodeAt w base bb T R va vc N) (hN : N.length ≤ 1024) (hbb : base ≤ bb) (hbs : base ≤ w.heap.size) (x : Sc.In) :
    Calls Try.prog 85 #[.pointer (some ⟨bb, 0, none⟩), .agg (inCells x)] w (CEnd w base bb T R (x :: N)) := by
  obtain ⟨iI, iI_e, iI_z, iI_s, iI_b⟩ := iIn_ex
  have iI_eq := hid iI_e
  clear iI_e
  obtain ⟨op, t, f, k⟩ := x
  simp only [inCells]
  have hne := owns_blk h.row h.blk h.ty
  have c0 := h.blk.cell 0
  have hbl := h.blk.lt
  have hbl2 : bb < w.heap.size + 1 := by omega
  have hbl3 : bb < w.heap.size + 1 + 1 := by omega
  simp at c0
  have H1 := hid (h.keep (gb_alloc (gb_refl w none) (.cells #[.int .i64 op, .int .i64 t, .int .i64 f, .int .i64 k] 46)))
  clear h
  go_enter Try.func85, Try.ntmps85
  go_wp2_with fail
  go_region_law (refine stepAppOwn rfl (.tmp 8) (.tmp 10) 39 rfl base 46 iI zIn 4 32 uIn iI_eq.out iI_z iI_s iI_b rfl (by decide) (.slice va N.length vc) N.length (insCells N.reverse) (by simp [Act.eval, Act.put]) (by exact H1.out.row.alloc _) ⟨w.heap.size + 1, 0, none⟩ 1 1 [.int .i64 op, .int .i64 t, .int .i64 f, .int .i64 k] (by simp [Act.eval, Act.put]) rfl (by exact new_cells _ 46 #[.int .i64 op, .int .i64 t, .int .i64 f, .int .i64 k] _ (by simp)) (by intro u hu; simp at hu; rcases hu with rfl | rfl | rfl | rfl <;> rfl) (by unfold maxLen; omega) (by omega) (by simp; omega) ?_; intro v' w' hown' hgrow'; obtain ⟨va7, vc7, rfl⟩ := owns_slice hown'; have qB := Blk.keep (by exact H1.out.blk.alloc _) hgrow' hne; have q0 := qB.cell 0; have qf := qB.fz; simp at q0)
  all_goals
    obtain ⟨va', vc', hvv, hBA⟩ := CodeAt.app (by exact CodeAt.keep H1.out (gb_drew (gb_alloc (gb_refl _ none) _))) ⟨op, t, f, k⟩ _ (by exact hown') hgrow'
    cases hvv
    have HBA := hid hBA
    have HBl := hid (KeptC.app (bb := bb) (by exact kept_none H1.out.row (gb_drew (gb_alloc (gb_refl _ none) _))) hgrow' hbb (by simp; omega) (.slice va7 (N.length + 1) vc7))
    clear hown' hgrow' qB hBA
    go_wp2_with fail
    try simp only [Exit.inBlock, Exit.then]
    refine bodyPost_end (results_none rfl _ _ _) rfl ?_
    refine ⟨rfl, ?_, _, _, HBA.out⟩
    refine KeptC.trans ?_ HBl.out
    exact KeptC.of (gb_drew (gb_alloc (gb_alloc (gb_refl _ none) _) _)) hbs

set_option maxRecDepth 100000 in
set_option maxHeartbeats 8000000 in
theorem bAddGo_any (w : World) (base bb : Nat) (T : TypeId) (R : List Value) (va : Option Addr) (vc : Nat) (N : List Sc.In) (h : CodeAt w base bb T R va vc N) (hN : N.length ≤ 1024) (hbb : base ≤ bb) (hbs : base ≤ w.heap.size) (s : Nat) (h1 : 1 ≤ s) (h2 : s ≤ N.length) (hr : ∀ i (h : i < N.length), InRng N[i]) :
    Calls Try.prog 115 #[.pointer (some ⟨bb, 0, none⟩), .int .i64 ((s : Int) - 1)] w (CEnd w base bb T R (Sc.jgo N s)) := by
  have H := hid h
  by_cases hs : N.length ≤ s
  · have hv : Hid (Sc.jgo N s = N) := by unfold Hid Sc.jgo; rw [if_pos (Or.inr hs)]
    have d1 : ¬ ((s : Int) - 1 < 0) := by omega
    have d2 : (N.length : Int) - 1 ≤ (s : Int) - 1 := by omega
    have c0 := h.blk.cell 0
    simp at c0
    clear h
    go_enter Try.func115, Try.ntmps115
    go_wp2_with fail
    try simp only [Exit.inBlock, Exit.then]
    refine bodyPost_ret (results_none rfl _ _ _) rfl ?_
    rw [hv.out]
    exact ⟨rfl, KeptC.refl _ _ _, va, vc, H.out⟩
  · obtain ⟨iI, iI_e, iI_z, iI_s, iI_b⟩ := iIn_ex
    have iI_eq := hid iI_e
    clear iI_e
    obtain ⟨s1, rfl⟩ : ∃ s1, s = s1 + 1 := ⟨s - 1, by omega⟩
    have es : ((s1 + 1 : Nat) : Int) - 1 = (s1 : Int) := by omega
    rw [es]
    have hi : N.length - (s1 + 1) < N.length := by omega
    have hyr := hr _ hi
    have hrev : N.reverse[s1]'(by simp; omega) = N[N.length - (s1 + 1)] := by
      rw [List.getElem_reverse]; congr 1; omega
    obtain ⟨g, hga, hgb, hgl, hcell⟩ := owns_in (l := N.reverse) (by simp) h.row s1 (by simp; omega)
    rw [hrev] at hcell
    have hdef : Hid (Sc.jgo N (s1 + 1) = if N[N.length - (s1 + 1)].op = 15 ∨ N[N.length - (s1 + 1)].op = 16 then N[N.length - (s1 + 1)] :: N else ⟨10, 0, 0, ((N.length - (s1 + 1) : Nat) : Int) + (if N[N.length - (s1 + 1)].op = 10 then 1 + N[N.length - (s1 + 1)].k else 0)⟩ :: N) := by
      unfold Hid Sc.jgo; rw [if_neg (by omega), List.getElem?_eq_getElem hi]
    have hne := owns_blk h.row h.blk h.ty
    have c0 := h.blk.cell 0
    have hbl := h.blk.lt
    have hbl2 : bb < w.heap.size + 1 := by omega
    have hbl3 : bb < w.heap.size + 1 + 1 := by omega
    simp at c0
    have t0 := hcell 0 (by omega)
    have t1 := hcell 1 (by omega)
    have t2 := hcell 2 (by omega)
    have t3 := hcell 3 (by omega)
    clear h hcell hrev hr es
    subst hga
    generalize N[N.length - (s1 + 1)] = Y at *
    have d1 : ¬ ((s1 : Int) < 0) := by omega
    have d2 : ¬ ((N.length : Int) - 1 ≤ (s1 : Int)) := by omega
    have d3 : (s1 : Int) < (N.length : Int) := by omega
    obtain ⟨yo, yt, yf, yk⟩ := Y
    obtain ⟨x1, x2, x3, x4, x5, x6, x7, x8⟩ := hyr
    simp only at x1 x2 x3 x4 x5 x6 x7 x8 hdef
    simp [inCells] at t0 t1 t2 t3
    have hE := hid (fun w => mIsEnd_any w yo)
    have H1 := hid (H.out.keep (gb_alloc (gb_refl w none) (.cells #[.int .i64 yo, .int .i64 yt, .int .i64 yf, .int .i64 yk] 46)))
    have hH1 := hid (bHop_any _ base bb T R _ vc N H1.out hN (s1 : Int) (by omega) (by omega))
    have c1 := H1.out.blk.cell 0
    simp at c1
    by_cases he : yo = 15 ∨ yo = 16
    · have hv : Hid (Sc.jgo N (s1 + 1) = ⟨yo, yt, yf, yk⟩ :: N) := by unfold Hid; rw [hdef.out, if_pos he]
      have hd : decide (yo = 15 ∨ yo = 16) = true := by simp [he]
      rw [hd] at hE
      clear hdef hd he hH1
      go_enter Try.func115, Try.ntmps115
      go_wp2_with fail
      refine (hE.out _).mono ?_
      rintro e w2 ⟨rfl, rfl⟩
      clear hE
      go_wp2_with fail
      go_region_law (refine stepAppOwn rfl (.tmp 32) (.tmp 34) 39 rfl base 46 iI zIn 4 32 uIn iI_eq.out iI_z iI_s iI_b rfl (by decide) (.slice (some ⟨g, 0, none⟩) N.length vc) N.length (insCells N.reverse) (by simp [Act.eval, Act.put]) (by exact H1.out.row.alloc _) ⟨w.heap.size + 1, 0, none⟩ 1 1 [.int .i64 yo, .int .i64 yt, .int .i64 yf, .int .i64 yk] (by simp [Act.eval, Act.put]) rfl (by exact new_cells _ 46 #[.int .i64 yo, .int .i64 yt, .int .i64 yf, .int .i64 yk] _ (by simp)) (by intro u hu; simp at hu; rcases hu with rfl | rfl | rfl | rfl <;> rfl) (by unfold maxLen; omega) (by omega) (by simp; omega) ?_; intro v' w' hown' hgrow'; obtain ⟨va7, vc7, rfl⟩ := owns_slice hown'; have qB := Blk.keep (by exact H1.out.blk.alloc _) hgrow' hne; have q0 := qB.cell 0; have qf := qB.fz; simp at q0)
      all_goals
        obtain ⟨va', vc', hvv, hBA⟩ := CodeAt.app (by exact CodeAt.keep H1.out (gb_drew (gb_alloc (gb_refl _ none) _))) ⟨yo, yt, yf, yk⟩ _ (by exact hown') hgrow'
        cases hvv
        have HBA := hid hBA
        have HBl := hid (KeptC.app (bb := bb) (by exact kept_none H1.out.row (gb_drew (gb_alloc (gb_refl _ none) _))) hgrow' hbb (by simp; omega) (.slice va7 (N.length + 1) vc7))
        clear hown' hgrow' qB hBA
        go_wp2_with fail
        try simp only [Exit.inBlock, Exit.then]
        refine bodyPost_ret (results_none rfl _ _ _) rfl ?_
        rw [hv.out]
        refine ⟨rfl, ?_, _, _, HBA.out⟩
        refine KeptC.trans ?_ HBl.out
        exact KeptC.of (gb_drew (gb_alloc (gb_alloc (gb_refl _ none) _) _)) hbs
    · have hd : decide (yo = 15 ∨ yo = 16) = false := by simp [he]
      rw [hd] at hE
      by_cases h10 : yo = 10
      · have hv : Hid (Sc.jgo N (s1 + 1) = ⟨10, 0, 0, (N.length : Int) - 1 - (s1 : Int) + (1 + yk)⟩ :: N) := by
          unfold Hid; rw [hdef.out, if_neg he, if_pos h10]
          have : ((N.length - (s1 + 1) : Nat) : Int) = (N.length : Int) - 1 - (s1 : Int) := by omega
          rw [this]
        have H2 := hid (H1.out.keep (gb_alloc (gb_refl _ none) (.cells #[.int .i64 10, .int .i64 0, .int .i64 0, .int .i64 ((N.length : Int) - 1 - (s1 : Int) + (1 + yk))] 46)))
        have c2 := H2.out.blk.cell 0
        simp at c2
        subst h10
        clear hdef hd he
        go_enter Try.func115, Try.ntmps115
        go_wp2_with fail
        refine (hE.out _).mono ?_
        rintro e w2 ⟨rfl, rfl⟩
        clear hE
        go_wp2_with fail
        refine hH1.out.mono ?_
        rintro e w3 ⟨rfl, rfl⟩
        clear hH1
        go_wp2_with fail
        go_region_law (refine stepAppOwn rfl (.tmp 56) (.tmp 58) 39 rfl base 46 iI zIn 4 32 uIn iI_eq.out iI_z iI_s iI_b rfl (by decide) (.slice (some ⟨g, 0, none⟩) N.length vc) N.length (insCells N.reverse) (by simp [Act.eval, Act.put]) (by exact H2.out.row.alloc _) ⟨w.heap.size + 1 + 1, 0, none⟩ 1 1 [.int .i64 10, .int .i64 0, .int .i64 0, .int .i64 ((N.length : Int) - 1 - (s1 : Int) + (1 + yk))] (by simp [Act.eval, Act.put]) rfl (by exact new_cells _ 46 #[.int .i64 10, .int .i64 0, .int .i64 0, .int .i64 ((N.length : Int) - 1 - (s1 : Int) + (1 + yk))] _ (by simp)) (by intro u hu; simp at hu; rcases hu with rfl | rfl | rfl | rfl <;> rfl) (by unfold maxLen; omega) (by omega) (by simp; omega) ?_; intro v' w' hown' hgrow'; obtain ⟨va7, vc7, rfl⟩ := owns_slice hown'; have qB := Blk.keep (by exact H2.out.blk.alloc _) hgrow' hne; have q0 := qB.cell 0; have qf := qB.fz; simp at q0)
        all_goals
          obtain ⟨va', vc', hvv, hBA⟩ := CodeAt.app (by exact CodeAt.keep H2.out (gb_drew (gb_alloc (gb_refl _ none) _))) ⟨10, 0, 0, ((N.length : Int) - 1 - (s1 : Int) + (1 + yk))⟩ _ (by exact hown') hgrow'
          cases hvv
          have HBA := hid hBA
          have HBl := hid (KeptC.app (bb := bb) (by exact kept_none H2.out.row (gb_drew (gb_alloc (gb_refl _ none) _))) hgrow' hbb (by simp; omega) (.slice va7 (N.length + 1) vc7))
          clear hown' hgrow' qB hBA
          go_wp2_with fail
          try simp only [Exit.inBlock, Exit.then]
          refine bodyPost_end (results_none rfl _ _ _) rfl ?_
          rw [hv.out]
          refine ⟨rfl, ?_, _, _, HBA.out⟩
          refine KeptC.trans ?_ HBl.out
          exact KeptC.of (gb_drew (gb_alloc (gb_alloc (gb_alloc (gb_refl _ none) _) _) _)) hbs
      · have hv : Hid (Sc.jgo N (s1 + 1) = ⟨10, 0, 0, (N.length : Int) - 1 - (s1 : Int)⟩ :: N) := by
          unfold Hid; rw [hdef.out, if_neg he, if_neg h10]
          have : ((N.length - (s1 + 1) : Nat) : Int) + 0 = (N.length : Int) - 1 - (s1 : Int) := by omega
          rw [this]
        have H2 := hid (H1.out.keep (gb_alloc (gb_refl _ none) (.cells #[.int .i64 10, .int .i64 0, .int .i64 0, .int .i64 ((N.length : Int) - 1 - (s1 : Int))] 46)))
        have c2 := H2.out.blk.cell 0
        simp at c2
        have e10 : (yo == 10) = false := by simp [h10]
        clear hdef hd he h10
        go_enter Try.func115, Try.ntmps115
        go_wp2_with fail
        refine (hE.out _).mono ?_
        rintro e w2 ⟨rfl, rfl⟩
        clear hE
        go_wp2_with fail
        refine hH1.out.mono ?_
        rintro e w3 ⟨rfl, rfl⟩
        clear hH1
        go_wp2_with fail
        go_region_law (refine stepAppOwn rfl (.tmp 56) (.tmp 58) 39 rfl base 46 iI zIn 4 32 uIn iI_eq.out iI_z iI_s iI_b rfl (by decide) (.slice (some ⟨g, 0, none⟩) N.length vc) N.length (insCells N.reverse) (by simp [Act.eval, Act.put]) (by exact H2.out.row.alloc _) ⟨w.heap.size + 1 + 1, 0, none⟩ 1 1 [.int .i64 10, .int .i64 0, .int .i64 0, .int .i64 ((N.length : Int) - 1 - (s1 : Int))] (by simp [Act.eval, Act.put]) rfl (by exact new_cells _ 46 #[.int .i64 10, .int .i64 0, .int .i64 0, .int .i64 ((N.length : Int) - 1 - (s1 : Int))] _ (by simp)) (by intro u hu; simp at hu; rcases hu with rfl | rfl | rfl | rfl <;> rfl) (by unfold maxLen; omega) (by omega) (by simp; omega) ?_; intro v' w' hown' hgrow'; obtain ⟨va7, vc7, rfl⟩ := owns_slice hown'; have qB := Blk.keep (by exact H2.out.blk.alloc _) hgrow' hne; have q0 := qB.cell 0; have qf := qB.fz; simp at q0)
        all_goals
          obtain ⟨va', vc', hvv, hBA⟩ := CodeAt.app (by exact CodeAt.keep H2.out (gb_drew (gb_alloc (gb_refl _ none) _))) ⟨10, 0, 0, ((N.length : Int) - 1 - (s1 : Int))⟩ _ (by exact hown') hgrow'
          cases hvv
          have HBA := hid hBA
          have HBl := hid (KeptC.app (bb := bb) (by exact kept_none H2.out.row (gb_drew (gb_alloc (gb_refl _ none) _))) hgrow' hbb (by simp; omega) (.slice va7 (N.length + 1) vc7))
          clear hown' hgrow' qB hBA
          go_wp2_with fail
          try simp only [Exit.inBlock, Exit.then]
          refine bodyPost_end (results_none rfl _ _ _) rfl ?_
          rw [hv.out]
          refine ⟨rfl, ?_, _, _, HBA.out⟩
          refine KeptC.trans ?_ HBl.out
          exact KeptC.of (gb_drew (gb_alloc (gb_alloc (gb_alloc (gb_refl _ none) _) _) _)) hbs
end Go.Proofs.Ytldongbimhngfaa
/- The program's codes that are built from their end on: AddTest, Cut, List. -/
namespace Go.Proofs.Ytldongbimhngfaa
open Go.RowKit
set_option linter.unusedVariables false
set_option linter.unusedSimpArgs false

set_option maxRecDepth 100000 in
set_option maxHeartbeats 8000000 in
theorem bAddTest_any (w : World) (base bb : Nat) (T : TypeId) (R : List Value) (va : Option Addr) (vc : Nat) (N : List Sc.In) (h : CodeAt w base bb T R va vc N) (hN : N.length ≤ 1024) (hbb : base ≤ bb) (hbs : base ≤ w.heap.size) (op k : Int) (s u : Nat) (h1 : 1 ≤ s) (h2 : s ≤ N.length) (h3 : 1 ≤ u) (h4 : u ≤ N.length) (hr : ∀ i (h : i < N.length), InRng N[i]) :
    Calls Try.prog 116 #[.pointer (some ⟨bb, 0, none⟩), .int .i64 op, .int .i64 k, .int .i64 ((s : Int) - 1), .int .i64 ((u : Int) - 1)] w (CEnd w base bb T R (if s = u then Sc.jgo N s else ⟨op, ((N.length - s : Nat) : Int), ((N.length - u : Nat) : Int), k⟩ :: N)) := by
  obtain ⟨iI, iI_e, iI_z, iI_s, iI_b⟩ := iIn_ex
  have iI_eq := hid iI_e
  clear iI_e
  have hne := owns_blk h.row h.blk h.ty
  have c0 := h.blk.cell 0
  have hbl := h.blk.lt
  have hbl2 : bb < w.heap.size + 1 := by omega
  simp at c0
  have H := hid h
  by_cases hsu : s = u
  · subst hsu
    rw [if_pos rfl]
    have hG := hid (bAddGo_any _ base bb T R va vc N H.out hN hbb hbs s h1 h2 hr)
    clear h
    have e1 : ((s : Int) - 1 == (s : Int) - 1) = true := by simp
    generalize ((s : Int) - 1) = S at *
    go_enter Try.func116, Try.ntmps116
    go_wp2_with fail
    refine hG.out.mono ?_
    rintro e w1 ⟨rfl, hb1, va1, vc1, hB1⟩
    have HB1 := hid hB1
    have Hb1 := hid hb1
    clear hG hB1 hb1
    go_wp2_with fail
    try simp only [Exit.inBlock, Exit.then]
    refine bodyPost_ret (results_none rfl _ _ _) rfl ?_
    exact ⟨rfl, Hb1.out, _, _, HB1.out⟩
  · rw [if_neg hsu]
    have hv : Hid ((⟨op, ((N.length - s : Nat) : Int), ((N.length - u : Nat) : Int), k⟩ : Sc.In) :: N = ⟨op, (N.length : Int) - 1 - ((s : Int) - 1), (N.length : Int) - 1 - ((u : Int) - 1), k⟩ :: N) := by
      have a1 : ((N.length - s : Nat) : Int) = (N.length : Int) - 1 - ((s : Int) - 1) := by omega
      have a2 : ((N.length - u : Nat) : Int) = (N.length : Int) - 1 - ((u : Int) - 1) := by omega
      unfold Hid; rw [a1, a2]
    have e1 : ((s : Int) - 1 == (u : Int) - 1) = false := by rw [beq_eq_false_iff_ne]; omega
    have r1 : 0 ≤ (s : Int) - 1 ∧ (s : Int) - 1 ≤ 1024 := by omega
    have r2 : 0 ≤ (u : Int) - 1 ∧ (u : Int) - 1 ≤ 1024 := by omega
    have hF1 := hid (bHop_any _ base bb T R va vc N H.out hN ((s : Int) - 1) r1.1 r1.2)
    have hF2 := hid (bHop_any _ base bb T R va vc N H.out hN ((u : Int) - 1) r2.1 r2.2)
    clear h hsu
    generalize ((s : Int) - 1) = S at *
    generalize ((u : Int) - 1) = U at *
    go_enter Try.func116, Try.ntmps116
    go_wp2_with fail
    refine hF1.out.mono ?_
    rintro e w1 ⟨rfl, rfl⟩
    clear hF1
    go_wp2_with fail
    refine hF2.out.mono ?_
    rintro e w2 ⟨rfl, rfl⟩
    clear hF2
    go_wp2_with (first
      | (at_builtin; refine wpList_append_own _ rfl (.tmp 28) (.tmp 34) 39 rfl base 46 iI zIn 4 32 uIn iI_eq.out iI_z iI_s iI_b rfl (by decide) (.slice va N.length vc) N.length (insCells N.reverse) rfl (by exact H.out.row.alloc _) ⟨w2.heap.size, 0, none⟩ 1 1 [.int .i64 op, .int .i64 ((N.length : Int) - 1 - S), .int .i64 ((N.length : Int) - 1 - U), .int .i64 k] rfl rfl ?c1 ?c2 ?c3 ?c4 ?c5 ?_)
      | fail)
    case c1 => exact new_cells _ 46 #[.int .i64 op, .int .i64 ((N.length : Int) - 1 - S), .int .i64 ((N.length : Int) - 1 - U), .int .i64 k] _ rfl
    case c2 => intro u hu; simp at hu; rcases hu with rfl | rfl | rfl | rfl <;> rfl
    case c3 => unfold maxLen; omega
    case c4 => omega
    case c5 => simp; omega
    intro v' w' hown' hgrow' _
    obtain ⟨va7, vc7, rfl⟩ := owns_slice hown'
    have qB := Blk.keep (by exact H.out.blk.alloc _) hgrow' hne
    have q0 := qB.cell 0
    have qf := qB.fz
    simp at q0
    obtain ⟨va', vc', hvv, hBA⟩ := CodeAt.app (by exact CodeAt.keep H.out (gb_alloc (gb_refl _ none) _)) ⟨op, (N.length : Int) - 1 - S, (N.length : Int) - 1 - U, k⟩ _ (by exact hown') hgrow'
    cases hvv
    have HBA := hid hBA
    have HBl := hid (KeptC.app (bb := bb) (by exact kept_none H.out.row (gb_alloc (gb_refl _ none) _)) hgrow' hbb (by simp; omega) (.slice va7 (N.length + 1) vc7))
    clear hown' hgrow' qB hBA
    go_wp2_with fail
    try simp only [Exit.inBlock, Exit.then]
    refine bodyPost_end (results_none rfl _ _ _) rfl ?_
    rw [hv.out]
    refine ⟨rfl, ?_, _, _, HBA.out⟩
    refine KeptC.trans ?_ HBl.out
    exact KeptC.of (gb_alloc (gb_refl _ none) _) hbs

/-- a row of one's own, cut -/
theorem owns_cut {w : World} {base : Nat} {e : TypeId} {size : Nat} {va : Option Addr} {n vc : Nat} {xs : List Value} (h : w.ownsRow base e size (.slice va n vc) n xs) (k : Nat) (hk : k ≤ n) : w.ownsRow base e size (.slice va k vc) k (xs.take (k * size)) := by
  have hkn : k * size ≤ n * size := Nat.mul_le_mul_right _ hk
  refine ⟨by rw [List.length_take, h.1]; omega, ?_⟩
  rcases h.2 with ⟨h1, h2⟩ | ⟨g, cap, cur, h1, h2, h3, h4, h5, h6, h7⟩
  · left
    simp only [Value.slice.injEq] at h1
    obtain ⟨rfl, _, rfl⟩ := h1
    have : k = 0 := by omega
    subst this
    exact ⟨rfl, rfl⟩
  · right
    simp only [Value.slice.injEq] at h1
    obtain ⟨rfl, _, rfl⟩ := h1
    refine ⟨g, vc, cur, rfl, h2, h3, by omega, h5, h6, ?_⟩
    rw [← h7, List.take_take]
    congr 1
    omega
theorem insCells_take (l : List Sc.In) : ∀ k, (insCells l).take (k * 4) = insCells (l.take k) := by
  induction l with
  | nil => intro k; simp [insCells]
  | cons x l ih =>
    intro k
    cases k with
    | zero => simp [insCells]
    | succ k =>
      have e : insCells (x :: l) = (inCells x).toList ++ insCells l := by simp [insCells]
      have hl : (inCells x).toList.length = 4 := by simp [inCells]
      have e2 : (k + 1) * 4 = (inCells x).toList.length + k * 4 := by omega
      rw [e, e2, List.take_length_add_append, ih]
      simp [insCells]
theorem rev_cut (N : List Sc.In) (k : Nat) (hk : k ≤ N.length) : N.reverse.take k = (N.drop (N.length - k)).reverse := by
  rw [List.take_reverse]
theorem owns_some {w : World} {base : Nat} {e : TypeId} {size : Nat} {va : Option Addr} {n vc : Nat} {xs : List Value} (h : w.ownsRow base e size (.slice va n vc) n xs) (hn : 0 < n) : ∃ g, va = some ⟨g, 0, none⟩ ∧ n ≤ vc ∧ vc ≤ maxLen := by
  rcases h.2 with ⟨h1, h2⟩ | ⟨g, cap, cur, h1, h2, h3, h4, h5, _⟩
  · omega
  · simp only [Value.slice.injEq] at h1
    obtain ⟨rfl, _, rfl⟩ := h1
    exact ⟨g, rfl, h4, h5⟩
set_option maxRecDepth 100000 in
set_option maxHeartbeats 8000000 in
theorem bCut_any (w : World) (base bb : Nat) (T : TypeId) (R : List Value) (va : Option Addr) (vc : Nat) (N : List Sc.In) (h : CodeAt w base bb T R va vc N) (hN : N.length ≤ 1024) (hbb : base ≤ bb) (hbs : base ≤ w.heap.size) (s : Nat) (h1 : 1 ≤ s) (h2 : s ≤ N.length) :
    Calls Try.prog 88 #[.pointer (some ⟨bb, 0, none⟩), .int .i64 ((s : Int) - 1)] w (CEnd w base bb T R (N.drop (N.length - s))) := by
  obtain ⟨s, rfl⟩ : ∃ s1, s = s1 + 1 := ⟨s - 1, by omega⟩
  have es : ((s + 1 : Nat) : Int) - 1 = (s : Int) := by omega
  rw [es]
  obtain ⟨g, rfl, hc1, hc2⟩ := owns_some h.row (by omega)
  have hdl : (N.drop (N.length - (s + 1))).length = s + 1 := by rw [List.length_drop]; omega
  have HR : Hid (w.ownsRow base 46 4 (.slice (some ⟨g, 0, none⟩) (s + 1) vc) (s + 1) (insCells (N.drop (N.length - (s + 1))).reverse)) := by
    have := owns_cut h.row (s + 1) h2
    rw [insCells_take, rev_cut N (s + 1) h2] at this
    exact this
  have hne := owns_blk h.row h.blk h.ty
  have c0 := h.blk.cell 0
  have cf := h.blk.fz 0
  simp at c0
  have d1 : (0 : Int) ≤ (s : Int) := by omega
  have d2 : (s : Int) < (N.length : Int) := by omega
  have d3 : (s : Int) + 1 ≤ (vc : Int) := by omega
  unfold maxLen at hc2
  have H := hid h
  have HD := hid hdl
  clear h hdl
  go_enter Try.func88, Try.ntmps88
  go_wp2_with fail
  try simp only [Exit.inBlock, Exit.then]
  refine bodyPost_end (results_none rfl _ _ _) rfl ?_
  refine ⟨rfl, ⟨below_app (gb_refl _ none) (by simp) hbb hbs _, fun k U cs z hk hU => z.other hk.symm 0 _⟩, some ⟨g, 0, none⟩, vc, ?_, ?_, H.out.ty⟩
  · have := H.out.blk.set 0 (.slice (some ⟨g, 0, none⟩) (s + 1) vc)
    rw [HD.out]
    simpa using this
  · rw [HD.out]
    exact owns_set HR.out (b := bb) (fun e => hne (by simpa [Value.ownBlock] using e.symm)) 0 _

theorem rev_drop_step (M : List Sc.In) (k : Nat) (h : k < M.length) : (M.drop k).reverse = (M.drop (k + 1)).reverse ++ [M[k]] := by
  rw [List.drop_eq_getElem_cons h, List.reverse_cons]
set_option maxRecDepth 100000 in
set_option maxHeartbeats 8000000 in
theorem bList_any (w : World) (base bb : Nat) (T : TypeId) (R : List Value) (va : Option Addr) (vc : Nat) (N : List Sc.In) (h : CodeAt w base bb T R va vc N) (hN : N.length ≤ 1024) :
    Calls Try.prog 69 #[.pointer (some ⟨bb, 0, none⟩)] w fun e w' => ∃ v, e = .returned v ∧ w.grownBy w' none ∧ w'.ownsRow w.heap.size 46 4 v N.length (insCells N) := by
  obtain ⟨iI, iI_e, iI_z, iI_s, iI_b⟩ := iIn_ex
  have iI_eq := hid iI_e
  have HI := hid (InsAt.of_own (by simp) h.row)
  have HB := hid h.blk
  have c0 := h.blk.cell 0
  simp at c0
  obtain ⟨M, hM⟩ : ∃ M, M = N.reverse := ⟨_, rfl⟩
  have hrev : Hid (N = M.reverse) := by unfold Hid; rw [hM, List.reverse_reverse]
  have hl : M.length = N.length := by rw [hM, List.length_reverse]
  rw [← hM] at HI
  rw [← hl] at HB hN c0 ⊢
  rw [hrev.out]
  clear iI_e h hM hl hrev
  go_enter Try.func69, Try.ntmps69
  go_wp2_with (first
    | (at_make; refine wpList_make_own _ rfl _ _ 39 rfl w.heap.size 46 iI zIn 4 uIn iI_eq.out iI_z iI_s _ _ _ M.length rfl rfl (by first | rfl | omega) (by rw [iI_b]; omega) (by unfold maxLen; omega) (Nat.le_refl _) ?_)
    | fail)
  intro w1 hown1 hgrow1
  have HG1 := hid hgrow1
  have HO1 := hid hown1
  have cc := (HB.out.keep hgrow1 (by simp)).cell 0
  simp at cc
  clear hgrow1 hown1
  go_wp2_with fail
  go_loopw [3, 4] (fun v i wr => ∃ (k : Nat), k ≤ M.length ∧ i = .int .i64 ((k : Int) - 1) ∧ v = .slice (some ⟨w.heap.size, 0, none⟩) (M.length - k) M.length ∧ w.grownBy wr none ∧ wr.ownsRow w.heap.size 46 4 (.slice (some ⟨w.heap.size, 0, none⟩) (M.length - k) M.length) (M.length - k) (insCells (M.drop k).reverse)) (fun v i wr => (intOf i + 1).toNat)
  case atStart =>
    refine ⟨M.length, Nat.le_refl _, rfl, by rw [Nat.sub_self], HG1.out, ?_⟩
    rw [Nat.sub_self, List.drop_eq_nil_of_le (Nat.le_refl _)]
    exact HO1.out
  case round =>
    obtain ⟨k, hk, rfl, rfl, hg, hown⟩ := hrel
    have HG := hid hg
    have HO := hid hown
    have hz := hg.size
    have hwl := (hown.lt w.heap.size rfl).2
    clear HO1 HG1 c0 cc
    cases k with
    | zero =>
      have d0 : ¬ ((0 : Int) ≤ ((0 : Nat) : Int) - 1) := by omega
      clear hown hg
      go_wp2_with fail
      go_ret
      refine ⟨_, rfl, HG.out, ?_⟩
      have := HO.out
      simp only [Nat.sub_zero, List.drop_zero] at this
      exact this
    | succ k =>
      have e0 : ((k + 1 : Nat) : Int) - 1 = (k : Int) := by omega
      rw [e0]
      have hlt : k < M.length := by omega
      have hlt' : (k : Int) < (M.length : Int) := by omega
      have c0 := (HB.out.keep hg (by simp)).cell 0
      simp at c0
      obtain ⟨b, off, hsa, hb, hcell⟩ := (HI.out.keep hg) k hlt
      have t0 := hcell 0 (by omega)
      have t1 := hcell 1 (by omega)
      have t2 := hcell 2 (by omega)
      have t3 := hcell 3 (by omega)
      have hsn := hid (rev_drop_step M k hlt)
      have hml : Hid (M.length - k = M.length - (k + 1) + 1) := by unfold Hid; omega
      have hmr : M.length - (k + 1) + 1 ≤ M.length := by omega
      generalize M.length - (k + 1) = m at *
      clear hcell hg hown HB HI
      subst hsa
      generalize M[k] = X at *
      obtain ⟨op, t, f, kk⟩ := X
      simp [inCells] at t0 t1 t2 t3
      go_wp2_with (first
        | (at_builtin; refine wpList_append_fits _ rfl _ _ 39 rfl w.heap.size 46 iI 4 uIn iI_eq.out iI_s w.heap.size m M.length (insCells (M.drop (k + 1)).reverse) rfl (HO.out.alloc _) ⟨wr.heap.size, 0, none⟩ 1 1 [.int .i64 op, .int .i64 t, .int .i64 f, .int .i64 kk] rfl rfl ?c1 ?c2 (by omega) ?_)
        | fail)
      case c1 => exact new_cells _ 46 #[.int .i64 op, .int .i64 t, .int .i64 f, .int .i64 kk] _ rfl
      case c2 => intro u hu; simp at hu; rcases hu with rfl | rfl | rfl | rfl <;> rfl
      intro w2 hown2 hgrow2
      have Ho2 := hid hown2
      have Hg2 := hid (gb_grow (gb_alloc HG.out (.cells #[.int .i64 op, .int .i64 t, .int .i64 f, .int .i64 kk] 46)) hgrow2 (fun j hj => by cases hj; exact Nat.le_refl _))
      clear hown2 hgrow2
      go_wp2_with fail
      go_roundw
      case rel =>
        refine ⟨k, by omega, by go_num, by rw [hml.out], Hg2.out, ?_⟩
        rw [hml.out, hsn.out, insCells_snoc]
        exact Ho2.out
      case measure => simp [intOf]
end Go.Proofs.Ytldongbimhngfaa
/- shortening, shortenJumps: the program's walks. -/
namespace Go.Proofs.Ytldongbimhngfaa
open Go.RowKit
set_option linter.unusedVariables false
set_option linter.unusedSimpArgs false

/-- what is built of a code, and the places of what it was, as they lie in memory -/
structure BuildAt (w : World) (base bb pg n : Nat) (va : Option Addr) (vc : Nat) (N : List Sc.In) (Q : List Int) : Prop where
  code : CodeAt w base bb 140 [.slice (some ⟨pg, 0, none⟩) n n] va vc N
  pls : w.ownsRow base 3 1 (.slice (some ⟨pg, 0, none⟩) n n) n (Q.map (Value.int .i64))
  len : Q.length = n
theorem BuildAt.keep {w w' : World} {base bb pg n : Nat} {va : Option Addr} {vc : Nat} {N : List Sc.In} {Q : List Int} (h : BuildAt w base bb pg n va vc N Q) (hg : w.grownBy w' none) : BuildAt w' base bb pg n va vc N Q :=
  ⟨h.code.keep hg, kept_none h.pls hg, h.len⟩
/-- a row that a code's methods leave -/
theorem KeptC.row {base bb : Nat} {w w' : World} (h : KeptC base bb w w') {b e s : Nat} {v : Value} {n : Nat} {xs : List Value} (hr : w.ownsRow b e s v n xs) (he : 46 ≠ e) (hb : v.ownBlock ≠ some bb) : w'.ownsRow b e s v n xs := by
  refine ⟨hr.1, ?_⟩
  rcases hr.2 with q | ⟨g, cap, cur, rfl, h2, h3, h4⟩
  · exact Or.inl q
  · exact Or.inr ⟨g, cap, cur, rfl, h2, h.blk g e cur h3 (fun q => hb (by rw [← q]; rfl)) he, h4⟩
theorem BuildAt.after {w w' : World} {base bb pg n : Nat} {va : Option Addr} {vc : Nat} {N : List Sc.In} {Q : List Int} (h : BuildAt w base bb pg n va vc N Q) (hk : KeptC base bb w w') {va' : Option Addr} {vc' : Nat} {N' : List Sc.In}
    (hc : CodeAt w' base bb 140 [.slice (some ⟨pg, 0, none⟩) n n] va' vc' N') : BuildAt w' base bb pg n va' vc' N' Q :=
  ⟨hc, hk.row h.pls (by decide) (fun e => owns_blk h.pls h.code.blk (by decide) e.symm), h.len⟩
set_option maxRecDepth 100000 in
set_option maxHeartbeats 4000000 in
theorem bPlace_any (w : World) (base bb pg n : Nat) (va : Option Addr) (vc : Nat) (N : List Sc.In) (Q : List Int) (h : BuildAt w base bb pg n va vc N Q) (hn : n ≤ 1024) (i : Nat) (hi : i < n) :
    Calls Try.prog 114 #[.pointer (some ⟨bb, 0, none⟩), .int .i64 i] w fun e w' => e = .returned (.int .i64 (Sc.fAt Q i)) ∧ w' = w := by
  have c0 := h.code.blk.cell 1
  simp at c0
  have c1 := own_int h.len.symm h.pls i (by rw [h.len]; exact hi)
  have hlt : (i : Int) < (n : Int) := by omega
  clear h
  generalize Sc.fAt Q i = V at *
  go_enter Try.func114, Try.ntmps114
  go_wp2_with fail
  go_ret
  exact ⟨rfl, rfl⟩
/-- how a method of shortening ends -/
def BEnd (w : World) (base bb pg n : Nat) (N' : List Sc.In) (Q : List Int) (e : Ending) (w' : World) : Prop :=
  e = .returned (.tuple #[]) ∧ Below base w w' ∧ ∃ va vc, BuildAt w' base bb pg n va vc N' Q

set_option maxRecDepth 100000 in
set_option maxHeartbeats 8000000 in
theorem bAdd_any (w : World) (base bb pg n : Nat) (va : Option Addr) (vc : Nat) (N : List Sc.In) (Q : List Int) (h : BuildAt w base bb pg n va vc N Q) (hN : N.length < 1024) (hbb : base ≤ bb) (hbs : base ≤ w.heap.size) (hr : ∀ i (h : i < N.length), InRng N[i])
    (x : Sc.In) (hx : InRng x) (i m : Nat) (P : List Nat) (him : i + 1 + m = n) (hn : n ≤ 1024) (hP : ∀ q, q < m → Sc.fAt Q (i + 1 + q) = ((P.getD q 0 : Nat) : Int) - 1 ∧ 1 ≤ P.getD q 0 ∧ P.getD q 0 ≤ N.length)
    (hk : x.op = 10 → x.k.toNat < m) (ht : Sc.isTest x.op = true → x.t.toNat < m ∧ x.f.toNat < m) :
    Calls Try.prog 101 #[.pointer (some ⟨bb, 0, none⟩), .agg (inCells x), .int .i64 i] w (BEnd w base bb pg n (Sc.jadd x N P) Q) := by
  have hdef : Hid (Sc.jadd x N P = if x.op = 10 then Sc.jgo N (P.getD x.k.toNat 0) else if Sc.isTest x.op = true then (if P.getD x.t.toNat 0 = P.getD x.f.toNat 0 then Sc.jgo N (P.getD x.t.toNat 0) else ⟨x.op, ((N.length - P.getD x.t.toNat 0 : Nat) : Int), ((N.length - P.getD x.f.toNat 0 : Nat) : Int), x.k⟩ :: N) else x :: N) := rfl
  generalize Sc.jadd x N P = R at *
  obtain ⟨op, t, f, k⟩ := x
  obtain ⟨x1, x2, x3, x4, x5, x6, x7, x8⟩ := hx
  simp only at x1 x2 x3 x4 x5 x6 x7 x8 hdef hk ht
  obtain ⟨t, rfl⟩ := Int.eq_ofNat_of_zero_le x3
  obtain ⟨f, rfl⟩ := Int.eq_ofNat_of_zero_le x5
  obtain ⟨k, rfl⟩ := Int.eq_ofNat_of_zero_le x7
  simp only [Int.toNat_natCast] at hdef hk ht
  have hT := hid (fun w => mIsTest_any w op)
  have hbl := h.code.blk.lt
  have H1 := hid (h.keep (gb_alloc (gb_refl w none) (.cells #[.int .i64 op, .int .i64 t, .int .i64 f, .int .i64 k] 46)))
  have HB0 := hid (below_of (base := base) (gb_alloc (gb_refl w none) (.cells #[.int .i64 op, .int .i64 t, .int .i64 f, .int .i64 k] 46)) hbs)
  have Hd := hid (H1.out.keep (gb_drew (gb_refl _ none)))
  have HBd := hid (below_of (base := base) (gb_drew (gb_alloc (gb_refl w none) (.cells #[.int .i64 op, .int .i64 t, .int .i64 f, .int .i64 k] 46))) hbs)
  have hPl := hid (fun q hq => bPlace_any _ base bb pg n va vc N Q H1.out hn (i + 1 + q) hq)
  have HP := hid hP
  clear hP h
  by_cases h10 : op = 10
  · have hk1 := hk h10
    obtain ⟨p1, p2, p3⟩ := HP.out k hk1
    have hv : Hid (R = Sc.jgo N (P.getD k 0)) := by unfold Hid; rw [hdef.out, if_pos h10]
    have hPk := hid (hPl.out k (by omega))
    rw [p1] at hPk
    have e1 : ((i + 1 + k : Nat) : Int) = (i : Int) + 1 + (k : Int) := by omega
    rw [e1] at hPk
    have hG := hid (bAddGo_any _ base bb _ _ va vc N H1.out.code (by omega) hbb (by simp; omega) (P.getD k 0) p2 p3 hr)
    subst h10
    clear hdef hPl HP hT hk ht
    generalize ((P.getD k 0 : Nat) : Int) - 1 = S at *
    simp only [inCells]
    go_enter Try.func101, Try.ntmps101
    go_wp2_with fail
    refine hPk.out.mono ?_
    rintro e w1 ⟨rfl, rfl⟩
    clear hPk
    go_wp2_with fail
    refine hG.out.mono ?_
    rintro e w1 ⟨rfl, hb1, va1, vc1, hB1⟩
    have HB1 := hid (H1.out.after hb1 hB1)
    have Hb1 := hid hb1.below
    clear hG hB1 hb1
    go_wp2_with fail
    try simp only [Exit.inBlock, Exit.then]
    refine bodyPost_ret (results_none rfl _ _ _) rfl ?_
    rw [hv.out]
    exact ⟨rfl, HB0.out.trans Hb1.out, _, _, HB1.out⟩
  · have e10 : (op == 10) = false := by simp [h10]
    cases hts : Sc.isTest op
    · have hv : Hid (R = ⟨op, (t : Int), (f : Int), (k : Int)⟩ :: N) := by unfold Hid; rw [hdef.out, if_neg h10, if_neg (by rw [hts]; decide)]
      rw [hts] at hT
      have hA := hid (bAdd0_any _ base bb _ _ va vc N Hd.out.code (by omega) hbb (by simp; omega) ⟨op, (t : Int), (f : Int), (k : Int)⟩)
      simp only [inCells] at hA
      clear hdef hPl HP hk ht h10 hts
      simp only [inCells]
      go_enter Try.func101, Try.ntmps101
      go_wp2_with fail
      refine (hT.out _).mono ?_
      rintro e w1 ⟨rfl, rfl⟩
      clear hT
      go_wp2_with fail
      go_region_with (go_at_call 85; refine hA.out.mono ?_; rintro e w1 ⟨rfl, hb1, va1, vc1, hB1⟩)
      all_goals
        have HB1 := hid (Hd.out.after hb1 hB1)
        have Hb1 := hid hb1.below
        clear hB1 hb1
        go_wp2_with fail
        try simp only [Exit.inBlock, Exit.then]
        refine bodyPost_end (results_none rfl _ _ _) rfl ?_
        rw [hv.out]
        exact ⟨rfl, HBd.out.trans Hb1.out, _, _, HB1.out⟩
    · obtain ⟨ht1, ht2⟩ := ht hts
      obtain ⟨p1, p2, p3⟩ := HP.out t ht1
      obtain ⟨q1, q2, q3⟩ := HP.out f ht2
      have hv : Hid (R = if P.getD t 0 = P.getD f 0 then Sc.jgo N (P.getD t 0) else ⟨op, ((N.length - P.getD t 0 : Nat) : Int), ((N.length - P.getD f 0 : Nat) : Int), (k : Int)⟩ :: N) := by unfold Hid; rw [hdef.out, if_neg h10, if_pos hts]
      have hPt := hid (hPl.out t (by omega))
      have hPf := hid (hPl.out f (by omega))
      rw [p1] at hPt
      rw [q1] at hPf
      have e1 : ((i + 1 + t : Nat) : Int) = (i : Int) + 1 + (t : Int) := by omega
      have e2 : ((i + 1 + f : Nat) : Int) = (i : Int) + 1 + (f : Int) := by omega
      rw [e1] at hPt
      rw [e2] at hPf
      have hA := hid (bAddTest_any _ base bb _ _ va vc N Hd.out.code (by omega) hbb (by simp; omega) op (k : Int) (P.getD t 0) (P.getD f 0) p2 p3 q2 q3 hr)
      rw [hts] at hT
      clear hdef hPl HP hk ht h10 hts
      generalize ((P.getD t 0 : Nat) : Int) - 1 = S at *
      generalize ((P.getD f 0 : Nat) : Int) - 1 = U at *
      simp only [inCells]
      go_enter Try.func101, Try.ntmps101
      go_wp2_with fail
      refine (hT.out _).mono ?_
      rintro e w1 ⟨rfl, rfl⟩
      clear hT
      go_wp2_with fail
      refine hPt.out.mono ?_
      rintro e w1 ⟨rfl, rfl⟩
      clear hPt
      go_wp2_with fail
      refine hPf.out.mono ?_
      rintro e w1 ⟨rfl, rfl⟩
      clear hPf
      go_wp2_with fail
      go_region_with (go_at_call 116; refine hA.out.mono ?_; rintro e w1 ⟨rfl, hb1, va1, vc1, hB1⟩)
      all_goals
        have HB1 := hid (Hd.out.after hb1 hB1)
        have Hb1 := hid hb1.below
        clear hB1 hb1
        go_wp2_with fail
        try simp only [Exit.inBlock, Exit.then]
        refine bodyPost_ret (results_none rfl _ _ _) rfl ?_
        rw [hv.out]
        exact ⟨rfl, HBd.out.trans Hb1.out, _, _, HB1.out⟩
/-- the places, as numbers -/
def jQ (L : List Sc.In) (k : Nat) : List Int := List.replicate k 0 ++ (Sc.jst (L.drop k)).2.map fun s => ((s : Nat) : Int) - 1
theorem jst_len : ∀ l : List Sc.In, (Sc.jst l).2.length = l.length := by
  intro l
  induction l with
  | nil => rfl
  | cons x r ih => simp [Sc.jst, ih]
theorem jQ_len (L : List Sc.In) (k : Nat) (h : k ≤ L.length) : (jQ L k).length = L.length := by
  unfold jQ; rw [List.length_append, List.length_replicate, List.length_map, jst_len, List.length_drop]; omega
theorem jQ_at (L : List Sc.In) (k q : Nat) (h : q < (L.drop k).length) : Sc.fAt (jQ L k) (k + q) = (((Sc.jst (L.drop k)).2.getD q 0 : Nat) : Int) - 1 := by
  unfold Sc.fAt jQ
  have hl := jst_len (L.drop k)
  rw [List.getElem?_append_right (by simp)]
  simp only [List.length_replicate, List.getElem?_map]
  have e : k + q - k = q := by omega
  rw [e, List.getElem?_eq_getElem (by omega)]
  simp [List.getD, List.getElem?_eq_getElem (show q < (Sc.jst (L.drop k)).2.length by omega)]
theorem jQ_step (L : List Sc.In) (k : Nat) (h : k < L.length) : jQ L k = (jQ L (k + 1)).set k (((Sc.jst (L.drop k)).1.length : Int) - 1) := by
  unfold jQ
  rw [List.drop_eq_getElem_cons h]
  simp only [Sc.jst, List.map_cons]
  rw [List.replicate_succ', List.append_assoc, List.set_append_right _ _ (by simp)]
  simp
theorem jst_facts {L : List Sc.In} (hs : SoundList L) (k : Nat) (hk : k ≤ L.length) : (Sc.jst (L.drop k)).1.length ≤ L.length - k ∧ (∀ q, q < (L.drop k).length → 1 ≤ (Sc.jst (L.drop k)).2.getD q 0 ∧ (Sc.jst (L.drop k)).2.getD q 0 ≤ (Sc.jst (L.drop k)).1.length) ∧ ∀ j (h : j < (Sc.jst (L.drop k)).1.length), InRng (Sc.jst (L.drop k)).1[j] := by
  by_cases q : k < L.length
  · have hG := sound_good_drop hs L.length k q (by omega)
    have hle : (L.drop k).length ≤ 1024 := by rw [List.length_drop]; have := hs.1.1; omega
    have J := jst_ok _ hG hle
    have hl := J.len
    rw [List.length_drop] at hl
    refine ⟨hl, fun z hz => ?_, fun j h => ?_⟩
    · have := J.rng z hz; omega
    · exact (good_sound J.good (by have := hs.1.1; omega)).1.2 j h
  · have : L.drop k = [] := List.drop_eq_nil_of_le (by omega)
    rw [this]
    refine ⟨Nat.zero_le _, fun z hz => by simp at hz, fun j h => by simp [Sc.jst] at h⟩
theorem InsAt.under {w w' : World} {sa : Option Addr} {l : List Sc.In} (h : InsAt w sa l) (hg : Below w.heap.size w w') : InsAt w' sa l := by
  intro i hi
  obtain ⟨b, off, h1, h2, h3⟩ := h i hi
  exact ⟨b, off, h1, Nat.lt_of_lt_of_le h2 hg.size, fun j hj => (World.cell?_of_block (a := ⟨b, off + i * 4 + j, none⟩) (hg.block b h2)).trans (h3 j hj)⟩
theorem gb_of_below {w w' : World} (h : Below w.heap.size w w') : w.grownBy w' none := ⟨h.os, h.tape, h.output, h.size, fun k hk _ => h.block k hk⟩
theorem below_drew {base : Nat} {w w' : World} (h : Below base w w') : Below base w w'.drew := ⟨h.os, h.tape, h.output, h.size, h.block⟩
theorem BuildAt.setQ {w : World} {base bb pg n : Nat} {va : Option Addr} {vc : Nat} {N : List Sc.In} {Q : List Int} (h : BuildAt w base bb pg n va vc N Q) (i : Nat) (v : Int) : BuildAt (w.setCell ⟨pg, i, none⟩ (.int .i64 v)) base bb pg n va vc N (Q.set i v) := by
  have h1 : pg ≠ bb := by
    intro e
    exact owns_blk h.pls h.code.blk (by decide) (by rw [← e]; rfl)
  have h2 : (Value.slice va N.length vc).ownBlock ≠ some pg := by
    rcases owns_apart h.code.row h.pls (by decide) with e | e
    · rw [e]; simp
    · exact e
  exact ⟨⟨h.code.blk.other h1 _ _, owns_set h.code.row h2 _ _, h.code.ty⟩, own_iset h.pls i v, by rw [List.length_set]; exact h.len⟩
theorem below_setQ {base pg i : Nat} {w : World} (h : base ≤ pg) (v : Value) : Below base w (w.setCell ⟨pg, i, none⟩ v) := by
  refine ⟨rfl, rfl, rfl, ?_, fun k hk => Below.heap_setCell _ _ _ _ (by simp; omega)⟩
  simp only [World.setCell, Array.size_modify]
  exact Nat.le_refl _

set_option maxRecDepth 100000 in
set_option maxHeartbeats 8000000 in
theorem iShorten_any (w : World) (sa : Option Addr) (sc : Nat) (L : List Sc.In) (hI : InsAt w sa L) (hs : SoundList L) :
    Calls Try.prog 82 #[.slice sa L.length sc] w fun e w' => ∃ v, e = .returned v ∧ w.grownBy w' none ∧ w'.ownsRow w.heap.size 46 4 v (Sc.passJ L).length (insCells (Sc.passJ L)) := by
  obtain ⟨iI, iI_e, iI_z, iI_s, iI_b⟩ := imIt_ex
  have iI_eq := hid iI_e
  have hn := hs.1.1
  have hp := hs.2.1
  have HI := hid hI
  have HS := hid hs
  clear iI_e hI hs
  go_enter Try.func82, Try.ntmps82
  go_wp2_with (first
    | (at_make; refine wpList_make_full _ rfl _ _ 22 rfl w.heap.size 3 iI (.int .i64 0) 1 imIts iI_eq.out iI_z iI_s _ _ _ _ L.length rfl rfl (by first | rfl | omega) (by first | rfl | omega) (by rw [iI_b]; omega) (by unfold maxLen; omega) (by simp) ?_)
    | fail)
  intro w1 hown1 hgrow1
  have e1 : (madeCells #[Value.int .i64 0] L.length).toList = (jQ L L.length).map (Value.int .i64) := by
    rw [toList_madeCells_one]; simp [jQ, Sc.jst]
  rw [e1] at hown1
  have hq : Hid ((jQ L L.length).length = L.length) := jQ_len L _ (Nat.le_refl _)
  have hlt1 := (hown1.lt w.heap.size rfl).2
  have HB1 : Hid (BuildAt (w1.alloc (.cells #[.slice none 0 0, .slice (some ⟨w.heap.size, 0, none⟩) L.length L.length] 140)) w.heap.size w1.heap.size w.heap.size L.length none 0 (Sc.jst (L.drop L.length)).1 (jQ L L.length)) := by
    have e : (Sc.jst (L.drop L.length)).1 = [] := by rw [List.drop_eq_nil_of_le (Nat.le_refl _)]; rfl
    rw [e]
    exact ⟨⟨Blk.new _ _ _, World.ownsRow_nil _ _ _ _, by decide⟩, hown1.alloc _, hq.out⟩
  have HG1 := hid (below_of (base := w.heap.size) (gb_alloc hgrow1 (.cells #[.slice none 0 0, .slice (some ⟨w.heap.size, 0, none⟩) L.length L.length] 140)) (Nat.le_refl _))
  clear hown1 hgrow1 e1 hq
  have hbb : w.heap.size ≤ w1.heap.size := by omega
  go_wp2_with fail
  generalize w1.heap.size = bb at *
  go_loopw [4] (fun i wr => ∃ (k : Nat), k ≤ L.length ∧ i = .int .i64 ((k : Int) - 1) ∧ Below w.heap.size w wr ∧ ∃ va vc, BuildAt wr w.heap.size bb w.heap.size L.length va vc (Sc.jst (L.drop k)).1 (jQ L k)) (fun i wr => (intOf i + 1).toNat)
  case atStart => exact ⟨L.length, Nat.le_refl _, rfl, HG1.out, none, 0, HB1.out⟩
  case round =>
    obtain ⟨k, hk, rfl, hg, va, vc, hB⟩ := hrel
    have HG := hid hg
    have HB := hid hB
    have hz := hg.size
    clear HB1 HG1
    cases k with
    | zero =>
      have d0 : ¬ ((0 : Int) ≤ ((0 : Nat) : Int) - 1) := by omega
      have e1 : Hid ((Sc.jst (L.drop 0)).1 = Sc.passJ L) := rfl
      rw [e1.out] at hB
      have hpl : (Sc.passJ L).length ≤ 1024 := by have := (passJ_better HS.out).len; omega
      have hBk := hid (bList_any wr _ _ _ _ va vc (Sc.passJ L) hB.code hpl)
      clear hg hB HB
      go_wp2_with fail
      refine hBk.out.mono ?_
      rintro e w3 ⟨v, rfl, hg3, ho3⟩
      have G3 := hid (gb_trans (gb_of_below HG.out) hg3)
      have O3 := hid (owns_base ho3 hz)
      clear hBk hg3 ho3
      go_wp2_with fail
      go_ret
      exact ⟨_, rfl, G3.out, O3.out⟩
    | succ k =>
      have e0 : ((k + 1 : Nat) : Int) - 1 = (k : Int) := by omega
      rw [e0]
      have hlt : k < L.length := by omega
      have hlt' : (k : Int) < (L.length : Int) := by omega
      obtain ⟨b, off, hsa, hb, hcell⟩ := (HI.out.under hg) k hlt
      have t0 := hcell 0 (by omega)
      have t1 := hcell 1 (by omega)
      have t2 := hcell 2 (by omega)
      have t3 := hcell 3 (by omega)
      obtain ⟨f1, f2, f3⟩ := jst_facts HS.out (k + 1) (by omega)
      have hdl : (L.drop (k + 1)).length = L.length - (k + 1) := List.length_drop ..
      have hw := (wrong_iff _ _).1 (HS.out.2.2.1 k hlt)
      have hxr := HS.out.1.2 k hlt
      have hst : Hid ((Sc.jst (L.drop k)).1 = Sc.jadd L[k] (Sc.jst (L.drop (k + 1))).1 (Sc.jst (L.drop (k + 1))).2) := by
        unfold Hid; rw [List.drop_eq_getElem_cons hlt]; rfl
      have hA := hid (bAdd_any wr w.heap.size bb w.heap.size L.length va vc _ _ hB (by omega) hbb hz f3 L[k] hxr k (L.length - (k + 1)) (Sc.jst (L.drop (k + 1))).2 (by omega) hn
        (fun q hq => ⟨jQ_at L (k + 1) q (by omega), f2 q (by omega)⟩)
        (fun z => by have := hw.2.2.2.2.1 z; unfold InRng at hxr; omega)
        (fun z => by have := hw.2.2.2.2.2 z; unfold InRng at hxr; omega))
      rw [← hst.out] at hA
      have hjs := hid (jQ_step L k hlt)
      have hNl : (Sc.jst (L.drop k)).1.length ≤ 1024 := by have := (jst_facts HS.out k (by omega)).1; omega
      clear hcell hg hB hw hxr f1 f2 f3 hdl hst HB
      obtain ⟨N', hN'⟩ : ∃ N', N' = (Sc.jst (L.drop k)).1 := ⟨_, rfl⟩
      rw [← hN'] at hA hjs hNl
      have HN := hid hN'
      clear hN'
      generalize L[k] = X at *
      obtain ⟨op, t, f, kk⟩ := X
      subst hsa
      simp only [inCells] at hA
      simp [inCells] at t0 t1 t2 t3
      go_wp2_with fail
      refine hA.out.mono ?_
      rintro e w3 ⟨rfl, hb3, va3, vc3, hB3⟩
      have HB3 := hid hB3
      have HG3 := hid (HG.out.trans hb3)
      have c0 := hB3.code.blk.cell 1
      have c1 := own_int hB3.len.symm hB3.pls k (by rw [hB3.len]; exact hlt)
      have cf := hB3.pls.frozenAt k
      simp at c0
      generalize Sc.fAt (jQ L (k + 1)) k = V at *
      have HBd := hid (HB3.out.keep (gb_drew (gb_refl w3 none)))
      have hFd := hid (bFirst_any _ w.heap.size bb _ _ va3 vc3 N' HBd.out.code hNl)
      clear hA hb3 hB3
      go_wp2_with fail
      go_region_with (go_at_call 86; refine hFd.out.mono ?_; rintro e w' ⟨rfl, rfl⟩)
      all_goals
        go_wp2_with fail
        go_roundw
        case rel =>
          have hBQ := (HB3.out.setQ k ((N'.length : Int) - 1)).keep (gb_drew (gb_refl _ none))
          rw [← hjs.out] at hBQ
          have hBw := (below_drew HG3.out).trans (below_setQ (pg := w.heap.size) (i := k) (Nat.le_refl _) (.int .i64 ((N'.length : Int) - 1)))
          refine ⟨k, by omega, by go_num, ?_, va3, vc3, ?_⟩
          · exact hBw
          · rw [← HN.out]; exact hBQ
        case measure => simp [intOf]
end Go.Proofs.Ytldongbimhngfaa
/- pass, Improve: the program's walks. -/
namespace Go.Proofs.Ytldongbimhngfaa
open Go.RowKit
set_option linter.unusedVariables false
set_option linter.unusedSimpArgs false

/-- how a pass ends -/
def PEnd (w : World) (M : List Sc.In) (e : Ending) (w' : World) : Prop := ∃ sa sc, e = .returned (.slice sa M.length sc) ∧ w.grownBy w' none ∧ InsAt w' sa M
theorem pend_of {w : World} {M : List Sc.In} {e : Ending} {w' : World} (h : ∃ v, e = .returned v ∧ w.grownBy w' none ∧ w'.ownsRow w.heap.size 46 4 v M.length (insCells M)) : PEnd w M e w' := by
  obtain ⟨v, rfl, hg, ho⟩ := h
  obtain ⟨sa, sc, rfl⟩ := owns_slice ho
  exact ⟨sa, sc, rfl, hg, InsAt.of_own rfl ho⟩

set_option maxRecDepth 100000 in
set_option maxHeartbeats 4000000 in
theorem iPass_any (w : World) (sa : Option Addr) (sc : Nat) (L : List Sc.In) (hI : InsAt w sa L) (hs : SoundList L) (b : Int) :
    Calls Try.prog 66 #[.slice sa L.length sc, .int .u8 b] w (PEnd w (Sc.passOf b L)) := by
  have hdef : Hid (Sc.passOf b L = if b = 100 then Sc.passD L else if b = 106 then Sc.passJ L else if b = 108 then Sc.passL L else if b = 107 then Sc.passK L else L) := rfl
  have HD := hid (iDropU_any w sa sc L hI hs)
  have HJ := hid (iShorten_any w sa sc L hI hs)
  have HL := hid (iDropL_any w sa sc L hI hs)
  have HK := hid (iSettle_any w sa sc L hI hs)
  have HI := hid hI
  clear hI hs
  by_cases h100 : b = 100
  · have hv : Hid (Sc.passOf b L = Sc.passD L) := by unfold Hid; rw [hdef.out, if_pos h100]
    rw [hv.out]
    subst h100
    clear hdef hv HJ HL HK HI
    go_enter Try.func66, Try.ntmps66
    go_wp2_with fail
    refine HD.out.mono ?_
    rintro e w1 h
    obtain ⟨sa', sc', rfl, hg, hI⟩ := pend_of h
    have HG := hid hg
    have HI := hid hI
    clear HD h hg hI
    go_wp2_with fail
    go_ret
    exact ⟨_, _, rfl, HG.out, HI.out⟩
  by_cases h106 : b = 106
  · have hv : Hid (Sc.passOf b L = Sc.passJ L) := by unfold Hid; rw [hdef.out, if_neg h100, if_pos h106]
    rw [hv.out]
    subst h106
    clear hdef hv HD HL HK HI h100
    go_enter Try.func66, Try.ntmps66
    go_wp2_with fail
    refine HJ.out.mono ?_
    rintro e w1 h
    obtain ⟨sa', sc', rfl, hg, hI⟩ := pend_of h
    have HG := hid hg
    have HI := hid hI
    clear HJ h hg hI
    go_wp2_with fail
    go_ret
    exact ⟨_, _, rfl, HG.out, HI.out⟩
  by_cases h108 : b = 108
  · have hv : Hid (Sc.passOf b L = Sc.passL L) := by unfold Hid; rw [hdef.out, if_neg h100, if_neg h106, if_pos h108]
    rw [hv.out]
    subst h108
    clear hdef hv HD HJ HK HI h100 h106
    go_enter Try.func66, Try.ntmps66
    go_wp2_with fail
    refine HL.out.mono ?_
    rintro e w1 h
    obtain ⟨sa', sc', rfl, hg, hI⟩ := pend_of h
    have HG := hid hg
    have HI := hid hI
    clear HL h hg hI
    go_wp2_with fail
    go_ret
    exact ⟨_, _, rfl, HG.out, HI.out⟩
  by_cases h107 : b = 107
  · have hv : Hid (Sc.passOf b L = Sc.passK L) := by unfold Hid; rw [hdef.out, if_neg h100, if_neg h106, if_neg h108, if_pos h107]
    rw [hv.out]
    subst h107
    clear hdef hv HD HJ HL HI h100 h106 h108
    go_enter Try.func66, Try.ntmps66
    go_wp2_with fail
    refine HK.out.mono ?_
    rintro e w1 h
    obtain ⟨sa', sc', rfl, hg, hI⟩ := pend_of h
    have HG := hid hg
    have HI := hid hI
    clear HK h hg hI
    go_wp2_with fail
    go_ret
    exact ⟨_, _, rfl, HG.out, HI.out⟩
  have hv : Hid (Sc.passOf b L = L) := by unfold Hid; rw [hdef.out, if_neg h100, if_neg h106, if_neg h108, if_neg h107]
  rw [hv.out]
  have e1 : (b == 100) = false := by simp [h100]
  have e2 : (b == 106) = false := by simp [h106]
  have e3 : (b == 108) = false := by simp [h108]
  have e4 : (b == 107) = false := by simp [h107]
  clear hdef hv HD HJ HL HK h100 h106 h108 h107
  go_enter Try.func66, Try.ntmps66
  go_wp2_with fail
  go_ret
  exact ⟨_, _, rfl, gb_refl _ _, HI.out⟩

set_option maxRecDepth 100000 in
set_option maxHeartbeats 4000000 in
theorem iImprove_any (w : World) (c p : ByteArray) (hc : c.size ≤ maxLen) (hp : p.size ≤ maxLen) :
    Calls Try.prog 57 #[.string c, .string p] w fun e w' => e = .returned (.tuple #[.string (Sc.impOut c p), .int .i64 (Sc.impErr c p)]) ∧ w.grownBy w' none := by
  have hR := hid (mRead_any w c hc)
  by_cases hS : (Sc.sound c).1 = 0
  · have hrl : readL c = Sc.decL c := by unfold readL; rw [if_pos hS]
    rw [hrl, hS] at hR
    generalize (Sc.sound c).2 = S2 at *
    by_cases hp12 : 12 < p.size
    · have hE : Hid (Sc.impErr c p = 10) := by unfold Hid Sc.impErr; rw [if_pos hS, if_pos hp12]
      have hO : Hid (Sc.impOut c p = ByteArray.empty) := by unfold Hid Sc.impOut; rw [hE.out]; rfl
      unfold maxLen at hp
      clear hS hrl
      go_enter Try.func57, Try.ntmps57
      go_wp2_with fail
      refine hR.out.mono ?_
      rintro e w1 ⟨sa, rfl, hg1, ho1⟩
      have G1 := hid hg1
      clear hR hg1 ho1
      go_wp2_with fail
      go_ret2
      rw [hE.out, hO.out]
      exact ⟨rfl, G1.out⟩
    · have hE : Hid (Sc.impErr c p = 0) := by unfold Hid Sc.impErr; rw [if_pos hS, if_neg hp12]
      have hO : Hid (Sc.impOut c p = bytesOf (Sc.impL p (Sc.decL c))) := by unfold Hid Sc.impOut; rw [if_pos hE.out]
      have HS := hid (sound_list c hS)
      have hHe : Hid (Sc.impN p (Sc.decL c) p.size = Sc.impL p (Sc.decL c)) := rfl
      generalize Sc.decL c = L at *
      clear hS hrl hp
      go_enter Try.func57, Try.ntmps57
      go_wp2_with fail
      refine hR.out.mono ?_
      rintro e w1 ⟨sa, rfl, hg1, ho1⟩
      have G1 := hid hg1
      have I1 := hid (InsAt.of_own rfl ho1)
      clear hR hg1 ho1
      go_wp2_with fail
      go_loopw [6, 9] (fun v i wr => ∃ (k : Nat) (sa : Option Addr) (sc : Nat), k ≤ p.size ∧ i = .int .i64 k ∧ v = .slice sa (Sc.impN p L k).length sc ∧ w.grownBy wr none ∧ InsAt wr sa (Sc.impN p L k)) (fun v i wr => p.size - (intOf i).toNat)
      case atStart => exact ⟨0, sa, L.length, Nat.zero_le _, rfl, rfl, G1.out, I1.out⟩
      case round =>
        obtain ⟨k, sa2, sc2, hk, rfl, rfl, hg, hI⟩ := hrel
        have HG := hid hg
        have hb := impN_better p HS.out k
        clear G1 I1
        by_cases hlt : k < p.size
        · have hlt' : (k : Int) < (p.size : Int) := by omega
          have hP := hid (iPass_any wr sa2 sc2 _ hI hb.sound (Sv.byteAt p k))
          have hst : Hid (Sc.impN p L (k + 1) = Sc.passOf (Sv.byteAt p k) (Sc.impN p L k)) := rfl
          rw [← hst.out] at hP
          rw [byteAt_in hlt] at hP
          clear hg hI hb hst
          go_wp2_with fail
          refine hP.out.mono ?_
          rintro e w2 ⟨sa3, sc3, rfl, hg2, hI2⟩
          have G2 := hid (gb_trans HG.out hg2)
          have I2 := hid hI2
          clear hP hg2 hI2
          go_wp2_with fail
          go_roundw
          case rel => exact ⟨k + 1, sa3, sc3, by omega, by go_num, rfl, G2.out, I2.out⟩
          case measure => simp [intOf]; omega
        · have hkk : k = p.size := by omega
          subst hkk
          have hEn := hid (mEncode_any wr sa2 sc2 _ hI (by have := hb.sound.1.1; unfold maxLen; omega))
          rw [hb.sound.1.encB, hb.sound.1.encE, hHe.out, ← hO.out] at hEn
          rw [hHe.out] at hI
          have hl : (Sc.impN p L p.size).length = (Sc.impL p L).length := rfl
          rw [hl]
          clear hg hI hb hl
          go_wp2_with fail
          refine hEn.out.mono ?_
          rintro e w2 ⟨rfl, hg2⟩
          have G2 := hid (gb_trans HG.out hg2)
          clear hEn hg2
          go_wp2_with fail
          go_ret2
          rw [hE.out]
          exact ⟨rfl, G2.out⟩
  · have hE : Hid (Sc.impErr c p = (Sc.sound c).1) := by unfold Hid Sc.impErr; rw [if_neg hS]
    have hO : Hid (Sc.impOut c p = ByteArray.empty) := by unfold Hid Sc.impOut; rw [hE.out, if_neg hS]
    generalize (Sc.sound c).2 = S2 at *
    generalize (Sc.sound c).1 = S1 at *
    have e1 : (S1 != 0) = true := by simp [hS]
    have e2 : (S1 == 0) = false := by simp [hS]
    go_enter Try.func57, Try.ntmps57
    go_wp2_with fail
    refine hR.out.mono ?_
    rintro e w1 ⟨sa, rfl, hg1, ho1⟩
    have G1 := hid hg1
    clear hR hg1 ho1
    go_wp2_with fail
    go_ret2
    rw [hE.out, hO.out]
    exact ⟨rfl, G1.out⟩
set_option maxRecDepth 100000 in
set_option maxHeartbeats 4000000 in
theorem improve_any (w : World) (c p : ByteArray) (hc : c.size ≤ maxLen) (hp : p.size ≤ maxLen) :
    Calls Try.prog 45 #[.string c, .string p] w fun e w' => e = .returned (.tuple #[.string (Sc.impOut c p), .int .i64 (Sc.impErr c p)]) ∧ w.grownBy w' none := by
  have hI := hid (iImprove_any w c p hc hp)
  generalize Sc.impOut c p = O at *
  generalize Sc.impErr c p = E at *
  go_enter Try.func45, Try.ntmps45
  go_wp2_with fail
  refine hI.out.mono ?_
  rintro e w1 ⟨rfl, hg1⟩
  have G1 := hid hg1
  clear hI hg1
  go_wp2_with fail
  go_ret2
  exact ⟨rfl, G1.out⟩
end Go.Proofs.Ytldongbimhngfaa
